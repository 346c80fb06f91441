package wire

import (
	"bytes"
	"encoding/binary"
	"encoding/hex"
	"math"
	"math/big"
	"math/rand"
	"slices"
	"strings"
	"testing"

	"garboard/api"
)

// The limits and errors, by their numbers, so that no test leans on the constants.
const (
	most      = 1000000
	mostText  = 400
	form      = api.Errno(2)
	short     = api.Errno(3)
	headBytes = 10
	tagBytes  = 32
	allBytes  = 63
)

// ends are numbers around which something changes, among them those that come to be valid if a byte or four of them are
// all that is kept, and the type's own ends.
var ends = []int{
	math.MinInt, math.MinInt + 1, -1 << 32, -1<<32 + 1, -1 << 31, -most, -65536, -257, -256, -255, -254, -2, -1,
	0, 1, 2, 3, 4, 5, 6, 7, 8, 9, 14, 15, 16, 17, 127, 128, 255, 256, 257, 258, 260, 262, 65535, 65536,
	most - 1, most, most + 1, 1<<24 - 1, 1 << 24, 1<<31 - 1, 1 << 31, 1<<31 + 1, 1<<32 - 1, 1 << 32, 1<<32 + 1, 1<<32 + most,
	1<<40 + 1, math.MaxInt - 1, math.MaxInt,
}

// digest is 32 bytes from first on, each of them another one.
func digest(first byte) [32]byte {
	var d [32]byte
	for i := range d {
		d[i] = first + byte(i)
	}
	return d
}

// frameOf is a valid frame with a text.
func frameOf(text string) api.Frame {
	return api.Frame{Kind: 2, From: 1, To: 3, Origin: 5, Seq: 0x0A0B0C, Text: text, Tag: digest(0xA0)}
}

// anEntry is a valid entry in which each field is another one.
func anEntry() api.Entry {
	return api.Entry{Kind: 3, Seq: 0x0A0B0C, Prev: digest(0x20), Point: at(7, 0x010203, 0x040506), Edge: 15, Peer: 6, N: 0x070809}
}

func at(node, epoch, round int) api.Point {
	return api.Point{Node: node, T: api.Stamp{Epoch: epoch, Round: round}}
}

func within(n, least, greatest int) bool { return least <= n && n <= greatest }

// rightFrame is the chapter's word: a valid frame.
func rightFrame(f api.Frame) bool {
	return within(f.Kind, 1, 4) && within(f.From, 0, 6) && within(f.To, 0, 6) && within(f.Origin, 0, 6) &&
		within(f.Seq, 0, most) && len(f.Text) <= mostText
}

// rightEntry is the chapter's word: a valid entry.
func rightEntry(e api.Entry) bool {
	return within(e.Kind, 1, 5) && within(e.Seq, 0, most) && within(e.Point.Node, 0, 7) &&
		within(e.Point.T.Epoch, 0, most) && within(e.Point.T.Round, 0, most) &&
		within(e.Edge, 0, 15) && within(e.Peer, 0, 6) && within(e.N, 1, most)
}

// modulo is n modulo m, which is never negative, by big numbers.
func modulo(n int, m int64) uint64 {
	return new(big.Int).Mod(big.NewInt(int64(n)), big.NewInt(m)).Uint64()
}

// low is n modulo 256.
func low(n int) byte { return byte(modulo(n, 256)) }

// number is the chapter's word: four bytes, the most significant first.
func number(b []byte, n int) []byte {
	return binary.BigEndian.AppendUint32(b, uint32(modulo(n, 1<<32)))
}

// wantSaid is Said by the words of P9.1.
func wantSaid(f api.Frame) []byte {
	b := number([]byte{low(f.Kind), low(f.From), low(f.To), low(f.Origin)}, f.Seq)
	b = binary.BigEndian.AppendUint16(b, uint16(modulo(len(f.Text), 65536)))
	return append(b, []byte(f.Text)...)
}

// wantFrame is Frame by the words of P9.1.
func wantFrame(f api.Frame) ([]byte, api.Errno) {
	if !rightFrame(f) {
		return nil, form
	}
	return slices.Concat(wantSaid(f), f.Tag[:]), 0
}

// wantReadFrame is ReadFrame by the words of P9.2: what Frame could have made of, and what is there if nothing.
func wantReadFrame(b []byte) (api.Frame, api.Errno) {
	if len(b) < headBytes {
		return api.Frame{}, short
	}
	length := int(binary.BigEndian.Uint16(b[8:10]))
	if len(b) < headBytes+length+tagBytes {
		return api.Frame{}, short
	}
	f := api.Frame{Kind: int(b[0]), From: int(b[1]), To: int(b[2]), Origin: int(b[3]), Seq: int(binary.BigEndian.Uint32(b[4:8]))}
	f.Text, f.Tag = string(b[10:10+length]), [32]byte(b[10+length:])
	if made, err := wantFrame(f); err != 0 || !bytes.Equal(made, b) {
		return api.Frame{}, form
	}
	return f, 0
}

// plainEntry are the bytes of an entry in the order of P9.3, valid or not.
func plainEntry(e api.Entry) string {
	b := number([]byte{low(e.Kind)}, e.Seq)
	b = append(append(b, e.Prev[:]...), low(e.Point.Node))
	b = number(number(b, e.Point.T.Epoch), e.Point.T.Round)
	b = number(append(b, low(e.Edge), low(e.Peer)), e.N)
	return string(b) + strings.Repeat("\x00", 11)
}

// wantEntry is Entry by the words of P9.3.
func wantEntry(e api.Entry) (string, api.Errno) {
	if !rightEntry(e) {
		return "", form
	}
	return plainEntry(e), 0
}

// wantReadEntry is ReadEntry by the words of P9.3.
func wantReadEntry(s string) (api.Entry, api.Errno) {
	if len(s) < allBytes {
		return api.Entry{}, short
	}
	b := []byte(s)
	four := func(i int) int { return int(binary.BigEndian.Uint32(b[i : i+4])) }
	e := api.Entry{Kind: int(b[0]), Seq: four(1), Prev: [32]byte(b[5:37]), Point: at(int(b[37]), four(38), four(42))}
	e.Edge, e.Peer, e.N = int(b[46]), int(b[47]), four(48)
	if made, err := wantEntry(e); err != 0 || made != s {
		return api.Entry{}, form
	}
	return e, 0
}

// holdFrame holds Said and Frame of f against what they should be, and what Frame returns against ReadFrame.
func holdFrame(t *testing.T, what string, f api.Frame) {
	t.Helper()
	if got, want := Said(f), wantSaid(f); !bytes.Equal(got, want) {
		t.Errorf("%s: Said: got %d bytes, want %d: %x, want %x", what, len(got), len(want), head(got), head(want))
	}
	got, err := Frame(f)
	want, wantErr := wantFrame(f)
	if err != wantErr || !bytes.Equal(got, want) {
		t.Errorf("%s: Frame: got %x %d, want %x %d", what, got, err, want, wantErr)
	}
	if err != 0 {
		return
	}
	if back, err := ReadFrame(got); err != 0 || back != f {
		t.Errorf("%s: ReadFrame of Frame: got %#v %d, want %#v", what, back, err, f)
	}
}

// head are so many bytes as a message can show.
func head(b []byte) []byte { return b[:min(len(b), 20)] }

// holdReadFrame holds ReadFrame of b against what it should be, and what it returns against Frame. It returns the error.
func holdReadFrame(t *testing.T, what string, b []byte) api.Errno {
	t.Helper()
	before := bytes.Clone(b)
	got, err := ReadFrame(b)
	if want, wantErr := wantReadFrame(b); got != want || err != wantErr {
		t.Errorf("%s: ReadFrame of %d bytes %x: got %#v %d, want %#v %d", what, len(b), head(b), got, err, want, wantErr)
	}
	if again, errAgain := ReadFrame(b); again != got || errAgain != err {
		t.Errorf("%s: ReadFrame again: got %#v %d, then %#v %d", what, got, err, again, errAgain)
	}
	if err == 0 {
		if made, err := Frame(got); err != 0 || !bytes.Equal(made, b) {
			t.Errorf("%s: Frame of ReadFrame: got %x %d, want %x", what, made, err, b)
		}
	}
	if !bytes.Equal(b, before) {
		t.Errorf("%s: ReadFrame modified its argument", what)
	}
	return err
}

// holdEntry holds Entry of e against what it should be, and what it returns against ReadEntry.
func holdEntry(t *testing.T, what string, e api.Entry) {
	t.Helper()
	got, err := Entry(e)
	if want, wantErr := wantEntry(e); err != wantErr || got != want {
		t.Errorf("%s: Entry(%#v): got %x %d, want %x %d", what, e, got, err, want, wantErr)
	}
	if err != 0 {
		return
	}
	if back, err := ReadEntry(got); err != 0 || back != e {
		t.Errorf("%s: ReadEntry of Entry: got %#v %d, want %#v", what, back, err, e)
	}
}

// holdReadEntry holds ReadEntry of s against what it should be, and what it returns against Entry. It returns the error.
func holdReadEntry(t *testing.T, what string, s string) api.Errno {
	t.Helper()
	got, err := ReadEntry(s)
	if want, wantErr := wantReadEntry(s); got != want || err != wantErr {
		t.Errorf("%s: ReadEntry of %d bytes %x: got %#v %d, want %#v %d", what, len(s), head([]byte(s)), got, err, want, wantErr)
	}
	if again, errAgain := ReadEntry(s); again != got || errAgain != err {
		t.Errorf("%s: ReadEntry again: got %#v %d, then %#v %d", what, got, err, again, errAgain)
	}
	if err == 0 {
		if made, err := Entry(got); err != 0 || made != s {
			t.Errorf("%s: Entry of ReadEntry: got %x %d, want %x", what, made, err, s)
		}
	}
	return err
}

// fromHex are the bytes of a text in hexadecimal, without its spaces.
func fromHex(t *testing.T, s string) []byte {
	t.Helper()
	b, err := hex.DecodeString(strings.ReplaceAll(s, " ", ""))
	if err != nil {
		t.Fatal(err)
	}
	return b
}

// The chapter's examples: 44 bytes, and ErrShort wherever they are cut off.
func TestExamples(t *testing.T) {
	b, err := Frame(frameOf("ab"))
	if err != 0 || len(b) != 44 {
		t.Fatalf("Frame: got %d bytes and %d", len(b), err)
	}
	for n := range b {
		if f, err := ReadFrame(b[:n]); err != short || f != (api.Frame{}) {
			t.Errorf("ReadFrame of %d bytes: got %#v %d", n, f, err)
		}
	}
	if f, err := ReadFrame(b); err != 0 || f != frameOf("ab") {
		t.Errorf("ReadFrame: got %#v %d", f, err)
	}
}

// P9.1: the bytes of frames, written out.
func TestFrameBytes(t *testing.T) {
	tag := "a0a1a2a3a4a5a6a7a8a9aaabacadaeafb0b1b2b3b4b5b6b7b8b9babbbcbdbebf"
	none := strings.Repeat("00", 32)
	cases := []struct {
		name      string
		f         api.Frame
		said, tag string
	}{
		{"each field another one", frameOf("ab"), "02 01 03 05 000a0b0c 0002 6162", tag},
		{"no text", frameOf(""), "02 01 03 05 000a0b0c 0000", tag},
		{"the least numbers", api.Frame{Kind: 1}, "01 00 00 00 00000000 0000", none},
		{"the greatest numbers", api.Frame{Kind: 4, From: 6, To: 6, Origin: 6, Seq: 1000000}, "04 06 06 06 000f4240 0000", none},
		{"from alone", api.Frame{Kind: 1, From: 6}, "01 06 00 00 00000000 0000", none},
		{"to alone", api.Frame{Kind: 1, To: 6}, "01 00 06 00 00000000 0000", none},
		{"origin alone", api.Frame{Kind: 1, Origin: 6}, "01 00 00 06 00000000 0000", none},
		{"a sequence number of one byte", api.Frame{Kind: 3, Seq: 255}, "03 00 00 00 000000ff 0000", none},
		{"a sequence number of two bytes", api.Frame{Kind: 3, Seq: 256}, "03 00 00 00 00000100 0000", none},
		{"a sequence number of three bytes", api.Frame{Kind: 3, Seq: 65536}, "03 00 00 00 00010000 0000", none},
		{"a text of bytes that are no characters", api.Frame{Kind: 1, Text: "\x00\xff\x80\xc3"}, "01 00 00 00 00000000 0004 00ff80c3", none},
		{"a text of characters of more bytes", api.Frame{Kind: 1, Text: "é€"}, "01 00 00 00 00000000 0005 c3a9e282ac", none},
		{"a text of 256 bytes", api.Frame{Kind: 1, Text: strings.Repeat("x", 256)}, "01 00 00 00 00000000 0100" + strings.Repeat("78", 256), none},
		{"a text of 400 bytes", api.Frame{Kind: 1, Text: strings.Repeat("x", 400)}, "01 00 00 00 00000000 0190" + strings.Repeat("78", 400), none},
	}
	for _, c := range cases {
		said, whole := fromHex(t, c.said), fromHex(t, c.said+c.tag)
		if got := Said(c.f); !bytes.Equal(got, said) {
			t.Errorf("%s: Said: got %x", c.name, got)
		}
		if got, err := Frame(c.f); err != 0 || !bytes.Equal(got, whole) {
			t.Errorf("%s: Frame: got %x %d", c.name, got, err)
		}
		if got, err := ReadFrame(whole); err != 0 || got != c.f {
			t.Errorf("%s: ReadFrame: got %#v %d", c.name, got, err)
		}
	}
}

// P9.1: Said of frames that are not valid, written out.
func TestSaidOfFramesThatAreNotValid(t *testing.T) {
	cases := []struct {
		name string
		f    api.Frame
		said string
	}{
		{"the zero frame", api.Frame{}, "00 00 00 00 00000000 0000"},
		{"just too great", api.Frame{Kind: 5, From: 7, To: 7, Origin: 7, Seq: 1000001}, "05 07 07 07 000f4241 0000"},
		{"-1", api.Frame{Kind: -1, From: -1, To: -1, Origin: -1, Seq: -1}, "ff ff ff ff ffffffff 0000"},
		{"-2 and on", api.Frame{Kind: -2, From: -3, To: -4, Origin: -5, Seq: -6}, "fe fd fc fb fffffffa 0000"},
		{"-256 and less", api.Frame{Kind: -256, From: -257, To: -258, Origin: -511, Seq: -4294967297}, "00 ff fe 01 ffffffff 0000"},
		{"the greatest of their bytes", api.Frame{Kind: 255, From: 255, To: 255, Origin: 255, Seq: 4294967295}, "ff ff ff ff ffffffff 0000"},
		{"one more", api.Frame{Kind: 256, From: 256, To: 256, Origin: 256, Seq: 4294967296}, "00 00 00 00 00000000 0000"},
		{"valid modulo", api.Frame{Kind: 257, From: 514, To: 259, Origin: -252, Seq: 4294967296 + 258}, "01 02 03 04 00000102 0000"},
		{"the type's ends", api.Frame{Kind: math.MinInt, From: math.MaxInt, To: math.MinInt + 1, Origin: math.MaxInt - 1, Seq: math.MaxInt}, "00 ff 01 fe ffffffff 0000"},
		{"a text of 401 bytes", api.Frame{Kind: 1, Text: strings.Repeat("x", 401)}, "01 00 00 00 00000000 0191" + strings.Repeat("78", 401)},
	}
	for _, c := range cases {
		if got, want := Said(c.f), fromHex(t, c.said); !bytes.Equal(got, want) {
			t.Errorf("%s: got %x, want %x", c.name, got, want)
		}
		if got, err := Frame(c.f); err != form || len(got) != 0 {
			t.Errorf("%s: Frame: got %x %d", c.name, got, err)
		}
	}
}

// P9.1: texts whose length does not fit into its two bytes are there in full all the same.
func TestSaidOfLongTexts(t *testing.T) {
	cases := []struct{ length, high, low int }{
		{65534, 0xff, 0xfe}, {65535, 0xff, 0xff}, {65536, 0, 0}, {65537, 0, 1}, {65536 + 256, 1, 0}, {65536 + 400, 1, 0x90},
		{131071, 0xff, 0xff}, {131072, 0, 0}, {1<<24 + 0x0102, 1, 2},
	}
	for _, c := range cases {
		text := strings.Repeat("abcdefg", c.length/7+1)[:c.length]
		got := Said(frameOf(text))
		if len(got) != headBytes+c.length || string(got[headBytes:]) != text || int(got[8]) != c.high || int(got[9]) != c.low {
			t.Errorf("a text of %d bytes: got %d bytes, %x", c.length, len(got), head(got))
		}
		holdFrame(t, "a long text", frameOf(text))
	}
}

// fieldsOf are the numbers of a frame, by their names.
func fieldsOf(f *api.Frame) map[string]*int {
	return map[string]*int{"Kind": &f.Kind, "From": &f.From, "To": &f.To, "Origin": &f.Origin, "Seq": &f.Seq}
}

// entryFieldsOf are the numbers of an entry, by their names.
func entryFieldsOf(e *api.Entry) map[string]*int {
	return map[string]*int{"Kind": &e.Kind, "Seq": &e.Seq, "Node": &e.Point.Node, "Epoch": &e.Point.T.Epoch,
		"Round": &e.Point.T.Round, "Edge": &e.Edge, "Peer": &e.Peer, "N": &e.N}
}

// P9.1: each field just within and just beyond what is valid, and far beyond.
func TestFrameLimits(t *testing.T) {
	limits := map[string][2]int{"Kind": {1, 4}, "From": {0, 6}, "To": {0, 6}, "Origin": {0, 6}, "Seq": {0, 1000000}}
	for name, limit := range limits {
		for _, n := range append(ends, limit[0]-1, limit[0], limit[1], limit[1]+1) {
			f := frameOf("text")
			*fieldsOf(&f)[name] = n
			want := form
			if within(n, limit[0], limit[1]) {
				want = 0
			}
			if b, err := Frame(f); err != want || (len(b) == 0) != (want != 0) {
				t.Errorf("%s is %d: got %x %d, want %d", name, n, b, err, want)
			}
			holdFrame(t, name, f)
		}
	}
	for _, length := range []int{0, 1, 2, 255, 256, 257, 399, 400, 401, 402, 512, 65535, 65536, 65537, 65536 + 400, 131072} {
		f, want := frameOf(strings.Repeat("\xfe", length)), api.Errno(0)
		if length > mostText {
			want = form
		}
		if b, err := Frame(f); err != want || (len(b) == 0) != (want != 0) {
			t.Errorf("a text of %d bytes: got %d bytes and %d, want %d", length, len(b), err, want)
		}
		holdFrame(t, "a text", f)
	}
}

// P9.1: the tag is no part of what is valid, and none of what is said.
func TestAnyTag(t *testing.T) {
	for _, tag := range [][32]byte{{}, digest(0), digest(0xE0), {31: 1}, {0: 255}} {
		f := frameOf("tagged")
		said := Said(f)
		f.Tag = tag
		if !bytes.Equal(Said(f), said) {
			t.Errorf("tag %x: Said: got %x, want %x", tag, Said(f), said)
		}
		if b, err := Frame(f); err != 0 || !bytes.Equal(b, slices.Concat(said, tag[:])) {
			t.Errorf("tag %x: Frame: got %x %d", tag, b, err)
		}
		holdFrame(t, "a tag", f)
	}
}

// P9.1: pairs of fields at their ends, so that no field is lost for another one.
func TestPairsOfFrameFields(t *testing.T) {
	few := []int{math.MinInt, -256, -1, 0, 1, 4, 5, 6, 7, 256, 257, most, most + 1, 1 << 32, math.MaxInt}
	names := []string{"Kind", "From", "To", "Origin", "Seq"}
	for i, one := range names {
		for _, other := range names[i+1:] {
			for _, a := range few {
				for _, b := range few {
					f := frameOf("of a pair")
					*fieldsOf(&f)[one], *fieldsOf(&f)[other] = a, b
					holdFrame(t, one+" and "+other, f)
				}
			}
		}
	}
}

// made are the bytes of a frame that is expected to have them.
func made(t *testing.T, f api.Frame) []byte {
	t.Helper()
	b, err := Frame(f)
	if err != 0 {
		t.Fatalf("Frame(%#v): got %d", f, err)
	}
	return b
}

// textOf is the text of an entry that is expected to have one.
func textOf(t *testing.T, e api.Entry) string {
	t.Helper()
	s, err := Entry(e)
	if err != 0 || len(s) != allBytes {
		t.Fatalf("Entry(%#v): got %d bytes and %d", e, len(s), err)
	}
	return s
}

// P9.2: nothing, just too few bytes for a head, and a head alone, of bytes that are valid and of some that are not.
func TestReadFrameOfFewBytes(t *testing.T) {
	if f, err := ReadFrame(nil); err != short || f != (api.Frame{}) {
		t.Errorf("nil: got %#v %d", f, err)
	}
	for n := range headBytes + tagBytes {
		for _, fill := range []byte{0, 1, 255} {
			b := bytes.Repeat([]byte{fill}, n)
			if f, err := ReadFrame(b); err != short || f != (api.Frame{}) {
				t.Errorf("%d bytes of %d: got %#v %d", n, fill, f, err)
			}
		}
	}
	bare := make([]byte, headBytes+tagBytes)
	if got := holdReadFrame(t, "42 zero bytes", bare); got != form {
		t.Errorf("42 zero bytes: got %d", got)
	}
	bare[0] = 1
	if f, err := ReadFrame(bare); err != 0 || f != (api.Frame{Kind: 1}) {
		t.Errorf("the least frame: got %#v %d", f, err)
	}
}

// P9.2, P9.4: each proper prefix of an encoding is short, and each longer one of another form.
func TestPrefixesOfFrames(t *testing.T) {
	for kind := 1; kind <= 4; kind++ {
		for _, length := range []int{0, 1, 2, 31, 32, 33, 255, 256, 257, 399, 400} {
			f := frameOf(strings.Repeat("\x01", length))
			f.Kind = kind
			b := made(t, f)
			for n := range b {
				if got, err := ReadFrame(b[:n]); err != short || got != (api.Frame{}) {
					t.Errorf("%d bytes of %d: got %#v %d", n, len(b), got, err)
				}
			}
			for _, more := range [][]byte{{0}, {1}, {0, 0}, make([]byte, 10), make([]byte, 32), b, make([]byte, 65536)} {
				if got, err := ReadFrame(slices.Concat(b, more)); err != form || got != (api.Frame{}) {
					t.Errorf("%d bytes behind %d: got %#v %d", len(more), len(b), got, err)
				}
			}
		}
	}
}

// P9.2: a length that is greater or less than what is there, or greater than 400.
func TestReadFrameLengths(t *testing.T) {
	cases := []struct {
		name   string
		length int // in the ninth and tenth bytes
		there  int // bytes between them and the tag
		want   api.Errno
	}{
		{"none", 0, 0, 0},
		{"none said, one there", 0, 1, form},
		{"one said, none there", 1, 0, short},
		{"one less than there", 9, 10, form},
		{"one more than there", 11, 10, short},
		{"two bytes exchanged", 0x0100, 0x0001, short},
		{"two bytes exchanged, the other way", 0x0001, 0x0100, form},
		{"256", 256, 256, 0},
		{"one less than 256", 256, 255, short},
		{"one more than 256", 256, 257, form},
		{"the greatest", 400, 400, 0},
		{"the greatest, one less", 400, 399, short},
		{"the greatest, one more", 400, 401, form},
		{"401, so many", 401, 401, form},
		{"401, one less", 401, 400, short},
		{"401, one more", 401, 402, form},
		{"512", 512, 512, form},
		{"512, far less", 512, 2, short},
		{"65535, so many", 65535, 65535, form},
		{"65535, one less", 65535, 65534, short},
		{"65535, one more", 65535, 65536, form},
		{"65535, nothing", 65535, 0, short},
		{"0 for 65536", 0, 65536, form},
	}
	for _, c := range cases {
		b := Said(frameOf(""))
		b[8], b[9] = byte(c.length>>8), byte(c.length)
		b = append(append(b, bytes.Repeat([]byte("x"), c.there)...), make([]byte, tagBytes)...)
		f, err := ReadFrame(b)
		if err != c.want || err != 0 && f != (api.Frame{}) || err == 0 && len(f.Text) != c.there {
			t.Errorf("%s: got %#v %d, want %d", c.name, f, err, c.want)
		}
		holdReadFrame(t, c.name, b)
	}
}

// P9.2: bytes of which one field alone is not valid are of another form; where they end too early, that comes first.
func TestReadFrameFields(t *testing.T) {
	cases := []struct {
		name string
		at   int
		set  string
		want api.Errno
	}{
		{"Kind 0", 0, "\x00", form}, {"Kind 1", 0, "\x01", 0}, {"Kind 4", 0, "\x04", 0}, {"Kind 5", 0, "\x05", form}, {"Kind 255", 0, "\xff", form},
		{"From 0", 1, "\x00", 0}, {"From 6", 1, "\x06", 0}, {"From 7", 1, "\x07", form}, {"From 255", 1, "\xff", form},
		{"To 0", 2, "\x00", 0}, {"To 6", 2, "\x06", 0}, {"To 7", 2, "\x07", form}, {"To 255", 2, "\xff", form},
		{"Origin 0", 3, "\x00", 0}, {"Origin 6", 3, "\x06", 0}, {"Origin 7", 3, "\x07", form}, {"Origin 255", 3, "\xff", form},
		{"Seq 0", 4, "\x00\x00\x00\x00", 0}, {"Seq 1000000", 4, "\x00\x0f\x42\x40", 0}, {"Seq 1000001", 4, "\x00\x0f\x42\x41", form},
		{"Seq 2^24", 4, "\x01\x00\x00\x00", form}, {"Seq 2^31 - 1", 4, "\x7f\xff\xff\xff", form}, {"Seq 2^31", 4, "\x80\x00\x00\x00", form},
		{"Seq 2^31 + 1", 4, "\x80\x00\x00\x01", form}, {"Seq 2^32 - 1", 4, "\xff\xff\xff\xff", form}, {"Seq 2^32 - 2^20", 4, "\xff\xf0\x00\x00", form},
	}
	for _, c := range cases {
		b := made(t, frameOf("ab"))
		copy(b[c.at:], c.set)
		if f, err := ReadFrame(b); err != c.want || err != 0 && f != (api.Frame{}) {
			t.Errorf("%s: got %#v %d, want %d", c.name, f, err, c.want)
		}
		holdReadFrame(t, c.name, b)
		for n := range b {
			if got := holdReadFrame(t, c.name, b[:n]); got != short {
				t.Errorf("%s, %d bytes of it: got %d", c.name, n, got)
			}
		}
		if got := holdReadFrame(t, c.name, append(b, 0)); got != form {
			t.Errorf("%s, and a byte more: got %d", c.name, got)
		}
	}
}

// P9.2: each byte of an encoding changed to each other one.
func TestReadFrameOfChangedBytes(t *testing.T) {
	seen := map[api.Errno]int{}
	for _, length := range []int{0, 3, 300} {
		b := made(t, frameOf(strings.Repeat("t", length)))
		for i := range b {
			was := b[i]
			for n := range 256 {
				b[i] = byte(n)
				seen[holdReadFrame(t, "changed", b)]++
			}
			b[i] = was
		}
	}
	if seen[0] == 0 || seen[form] == 0 || seen[short] == 0 {
		t.Errorf("only these results: %#v", seen)
	}
}

// P9.3: the texts of entries, written out.
func TestEntryBytes(t *testing.T) {
	prev := "202122232425262728292a2b2c2d2e2f303132333435363738393a3b3c3d3e3f"
	none, spare := strings.Repeat("00", 32), strings.Repeat("00", 11)
	cases := []struct {
		name string
		e    api.Entry
		text string
	}{
		{"each field another one", anEntry(), "03 000a0b0c" + prev + "07 00010203 00040506 0f 06 00070809"},
		{"the least numbers", api.Entry{Kind: 1, N: 1}, "01 00000000" + none + "00 00000000 00000000 00 00 00000001"},
		{"the greatest numbers", api.Entry{Kind: 5, Seq: 1000000, Point: at(7, 1000000, 1000000), Edge: 15, Peer: 6, N: 1000000},
			"05 000f4240" + none + "07 000f4240 000f4240 0f 06 000f4240"},
		{"the epoch alone", api.Entry{Kind: 2, Point: at(0, 258, 0), N: 1}, "02 00000000" + none + "00 00000102 00000000 00 00 00000001"},
		{"the round alone", api.Entry{Kind: 2, Point: at(0, 0, 258), N: 1}, "02 00000000" + none + "00 00000000 00000102 00 00 00000001"},
		{"the edge alone", api.Entry{Kind: 4, Edge: 15, N: 1}, "04 00000000" + none + "00 00000000 00000000 0f 00 00000001"},
		{"the peer alone", api.Entry{Kind: 4, Peer: 6, N: 1}, "04 00000000" + none + "00 00000000 00000000 00 06 00000001"},
		{"the node alone", api.Entry{Kind: 4, Point: at(7, 0, 0), N: 1}, "04 00000000" + none + "07 00000000 00000000 00 00 00000001"},
	}
	for _, c := range cases {
		want := string(fromHex(t, c.text+spare))
		if got, err := Entry(c.e); err != 0 || got != want {
			t.Errorf("%s: Entry: got %x %d, want %x", c.name, got, err, want)
		}
		if got, err := ReadEntry(want); err != 0 || got != c.e {
			t.Errorf("%s: ReadEntry: got %#v %d", c.name, got, err)
		}
	}
}

// P9.3: each field just within and just beyond what is valid, and far beyond.
func TestEntryLimits(t *testing.T) {
	limits := map[string][2]int{"Kind": {1, 5}, "Seq": {0, 1000000}, "Node": {0, 7}, "Epoch": {0, 1000000},
		"Round": {0, 1000000}, "Edge": {0, 15}, "Peer": {0, 6}, "N": {1, 1000000}}
	for name, limit := range limits {
		for _, n := range append(ends, limit[0]-1, limit[0], limit[1], limit[1]+1) {
			e := anEntry()
			*entryFieldsOf(&e)[name] = n
			want := form
			if within(n, limit[0], limit[1]) {
				want = 0
			}
			if s, err := Entry(e); err != want || (s == "") != (want != 0) {
				t.Errorf("%s is %d: got %x %d, want %d", name, n, s, err, want)
			}
			holdEntry(t, name, e)
		}
	}
	if s, err := Entry(api.Entry{}); err != form || s != "" {
		t.Errorf("the zero entry: got %x %d", s, err)
	}
}

// P9.3: pairs of fields at their ends, so that no field is lost for another one.
func TestPairsOfEntryFields(t *testing.T) {
	few := []int{math.MinInt, -256, -1, 0, 1, 5, 6, 7, 8, 15, 16, 256, 257, most, most + 1, 1 << 32, 1<<32 + 1, math.MaxInt}
	names := []string{"Kind", "Seq", "Node", "Epoch", "Round", "Edge", "Peer", "N"}
	for i, one := range names {
		for _, other := range names[i+1:] {
			for _, a := range few {
				for _, b := range few {
					e := anEntry()
					*entryFieldsOf(&e)[one], *entryFieldsOf(&e)[other] = a, b
					holdEntry(t, one+" and "+other, e)
				}
			}
		}
	}
}

// P9.3: fewer bytes than 63 are short, whatever they are; more are of another form.
func TestReadEntrySizes(t *testing.T) {
	s := textOf(t, anEntry())
	long := s + s + s
	for n := range len(long) {
		want := form
		if n < allBytes {
			want = short
		}
		for _, text := range []string{long[:n], strings.Repeat("\x00", n), strings.Repeat("\xff", n), strings.Repeat("\x01", n)} {
			if n == allBytes && text == s {
				continue
			}
			if e, err := ReadEntry(text); err != want || e != (api.Entry{}) {
				t.Errorf("%d bytes: got %#v %d, want %d", n, e, err, want)
			}
		}
	}
	for _, more := range []string{"\x00", "x", "\x00\x00", strings.Repeat("\x00", 63), strings.Repeat("\x00", 1<<16)} {
		if e, err := ReadEntry(s + more); err != form || e != (api.Entry{}) {
			t.Errorf("%d bytes behind: got %#v %d", len(more), e, err)
		}
	}
	if e, err := ReadEntry(""); err != short || e != (api.Entry{}) {
		t.Errorf("nothing: got %#v %d", e, err)
	}
	if e, err := ReadEntry(s); err != 0 || e != anEntry() {
		t.Errorf("63 bytes: got %#v %d", e, err)
	}
}

// P9.3: each proper prefix of an encoding is short, for entries of all kinds.
func TestPrefixesOfEntries(t *testing.T) {
	for kind := 1; kind <= 5; kind++ {
		e := anEntry()
		e.Kind = kind
		s := textOf(t, e)
		for n := range s {
			if got, err := ReadEntry(s[:n]); err != short || got != (api.Entry{}) {
				t.Errorf("kind %d, %d bytes: got %#v %d", kind, n, got, err)
			}
		}
	}
}

// P9.3: each of the last 11 bytes is zero.
func TestReadEntrySpareBytes(t *testing.T) {
	s := textOf(t, anEntry())
	for i := allBytes - 11; i < allBytes; i++ {
		for n := 1; n < 256; n++ {
			changed := s[:i] + string([]byte{byte(n)}) + s[i+1:]
			if e, err := ReadEntry(changed); err != form || e != (api.Entry{}) {
				t.Errorf("byte %d is %d: got %#v %d", i, n, e, err)
			}
		}
		if s[i] != 0 {
			t.Errorf("Entry: byte %d is %d", i, s[i])
		}
	}
}

// P9.3: texts of which one field alone is not valid are of another form; where they end too early, that comes first.
func TestReadEntryFields(t *testing.T) {
	four := []struct {
		set  string
		want api.Errno
	}{
		{"\x00\x00\x00\x01", 0}, {"\x00\x0f\x42\x40", 0}, {"\x00\x0f\x42\x41", form}, {"\x01\x00\x00\x00", form}, {"\x7f\xff\xff\xff", form},
		{"\x80\x00\x00\x00", form}, {"\x80\x00\x00\x01", form}, {"\xff\xff\xff\xff", form}, {"\xff\xf0\x00\x00", form},
	}
	type change struct {
		name string
		at   int
		set  string
		want api.Errno
	}
	cases := []change{
		{"Kind 0", 0, "\x00", form}, {"Kind 1", 0, "\x01", 0}, {"Kind 5", 0, "\x05", 0}, {"Kind 6", 0, "\x06", form}, {"Kind 255", 0, "\xff", form},
		{"Node 0", 37, "\x00", 0}, {"Node 7", 37, "\x07", 0}, {"Node 8", 37, "\x08", form}, {"Node 255", 37, "\xff", form},
		{"Edge 0", 46, "\x00", 0}, {"Edge 15", 46, "\x0f", 0}, {"Edge 16", 46, "\x10", form}, {"Edge 255", 46, "\xff", form},
		{"Peer 0", 47, "\x00", 0}, {"Peer 6", 47, "\x06", 0}, {"Peer 7", 47, "\x07", form}, {"Peer 255", 47, "\xff", form},
		{"Seq 0", 1, "\x00\x00\x00\x00", 0}, {"Epoch 0", 38, "\x00\x00\x00\x00", 0}, {"Round 0", 42, "\x00\x00\x00\x00", 0}, {"N 0", 48, "\x00\x00\x00\x00", form},
	}
	for name, i := range map[string]int{"Seq": 1, "Epoch": 38, "Round": 42, "N": 48} {
		for _, c := range four {
			cases = append(cases, change{name, i, c.set, c.want})
		}
	}
	s := textOf(t, anEntry())
	for _, c := range cases {
		changed := s[:c.at] + c.set + s[c.at+len(c.set):]
		if e, err := ReadEntry(changed); err != c.want || err != 0 && e != (api.Entry{}) {
			t.Errorf("%s is %x: got %#v %d, want %d", c.name, c.set, e, err, c.want)
		}
		holdReadEntry(t, c.name, changed)
		if got := holdReadEntry(t, c.name, changed[:62]); got != short {
			t.Errorf("%s is %x, 62 bytes: got %d", c.name, c.set, got)
		}
		if got := holdReadEntry(t, c.name, changed+"\x00"); got != form {
			t.Errorf("%s is %x, 64 bytes: got %d", c.name, c.set, got)
		}
	}
}

// P9.3: each byte of an encoding changed to each other one.
func TestReadEntryOfChangedBytes(t *testing.T) {
	seen := map[api.Errno]int{}
	for _, e := range []api.Entry{anEntry(), {Kind: 1, N: 1}} {
		s := textOf(t, e)
		for i := range len(s) {
			for n := range 256 {
				seen[holdReadEntry(t, "changed", s[:i]+string([]byte{byte(n)})+s[i+1:])]++
			}
		}
	}
	if seen[0] == 0 || seen[form] == 0 || seen[short] != 0 {
		t.Errorf("these results: %#v", seen)
	}
}

// someText is a text at random, of bytes of any kind.
func someText(r *rand.Rand) string {
	b := make([]byte, r.Intn(mostText+1))
	if r.Intn(3) == 0 {
		b = b[:len(b)/100]
	}
	r.Read(b)
	return string(b)
}

// someNumber is a number at random of 0 to the greatest, often a small or a great one.
func someNumber(r *rand.Rand, greatest int) int {
	switch r.Intn(4) {
	case 0:
		return min(greatest, r.Intn(3))
	case 1:
		return greatest - min(greatest, r.Intn(3))
	}
	return r.Intn(greatest + 1)
}

// someFrame is a valid frame at random.
func someFrame(r *rand.Rand) api.Frame {
	f := api.Frame{Kind: 1 + r.Intn(4), From: r.Intn(7), To: r.Intn(7), Origin: r.Intn(7), Seq: someNumber(r, most), Text: someText(r)}
	r.Read(f.Tag[:r.Intn(33)])
	return f
}

// someEntry is a valid entry at random.
func someEntry(r *rand.Rand) api.Entry {
	e := api.Entry{Kind: 1 + r.Intn(5), Seq: someNumber(r, most), Edge: r.Intn(16), Peer: r.Intn(7), N: 1 + someNumber(r, most-1)}
	e.Point = at(r.Intn(8), someNumber(r, most), someNumber(r, most))
	r.Read(e.Prev[:r.Intn(33)])
	return e
}

// P9.4: what is encoded is read as it was, for all small numbers, and at random.
func TestFramesThereAndBack(t *testing.T) {
	for kind := 0; kind <= 5; kind++ {
		for workers := range 9 * 9 * 9 {
			f := api.Frame{Kind: kind, From: workers/81 - 1, To: workers/9%9 - 1, Origin: workers%9 - 1, Seq: workers, Text: "t"}
			holdFrame(t, "small numbers", f)
		}
	}
	r := rand.New(rand.NewSource(94))
	for range 5000 {
		f := someFrame(r)
		b := made(t, f)
		if got, err := ReadFrame(b); err != 0 || got != f {
			t.Errorf("ReadFrame(Frame(%#v)): got %#v %d", f, got, err)
		}
		holdFrame(t, "at random", f)
		for range 4 {
			b[r.Intn(len(b))] = byte(r.Intn(256))
			holdReadFrame(t, "changed at random", b)
		}
		holdReadFrame(t, "cut off at random", b[:r.Intn(len(b))])
	}
}

// P9.4: what is encoded is read as it was, for all small numbers, and at random.
func TestEntriesThereAndBack(t *testing.T) {
	for kind := 0; kind <= 6; kind++ {
		for n := range 10 * 18 * 9 {
			e := api.Entry{Kind: kind, Seq: n, Point: at(n/(18*9)-1, n, 9-n), Edge: n/9%18 - 1, Peer: n%9 - 1, N: n % 5}
			holdEntry(t, "small numbers", e)
			e.Point.T.Round, e.N = n%7, n+1
			holdEntry(t, "small numbers", e)
		}
	}
	r := rand.New(rand.NewSource(95))
	for range 10000 {
		e := someEntry(r)
		s := textOf(t, e)
		if got, err := ReadEntry(s); err != 0 || got != e {
			t.Errorf("ReadEntry(Entry(%#v)): got %#v %d", e, got, err)
		}
		b := []byte(s)
		for range 4 {
			b[r.Intn(len(b))] = byte(r.Intn(256))
			holdReadEntry(t, "changed at random", string(b))
		}
	}
}

// P9.4: what can be read at all encodes to the very bytes that were read.
func TestBytesThereAndBack(t *testing.T) {
	r := rand.New(rand.NewSource(96))
	frames, entries := 0, 0
	for range 200000 {
		b := make([]byte, headBytes+tagBytes+r.Intn(4))
		r.Read(b)
		b[0], b[1], b[2], b[3] = b[0]%6, b[1]%8, b[2]%8, b[3]%8
		b[4], b[5], b[8], b[9] = b[4]%32/31, b[5]%17, b[8]%32/31, b[9]%4
		if holdReadFrame(t, "bytes at random", b) == 0 {
			frames++
		}
		s := make([]byte, allBytes)
		r.Read(s[:52])
		s[0], s[37], s[46], s[47] = s[0]%7, s[37]%9, s[46]%17, s[47]%8
		for _, i := range []int{1, 38, 42, 48} {
			s[i], s[i+1] = 0, s[i+1]%16
		}
		s[allBytes-1-r.Intn(11)] = byte(r.Intn(16) / 15)
		if holdReadEntry(t, "bytes at random", string(s)) == 0 {
			entries++
		}
	}
	if frames < 1000 || entries < 1000 {
		t.Errorf("only %d frames and %d entries", frames, entries)
	}
}

// manyFrames are different valid frames, many of which differ in one field alone.
func manyFrames() []api.Frame {
	list := map[api.Frame]bool{}
	for name := range fieldsOf(&api.Frame{}) {
		for _, n := range ends {
			f := frameOf("one")
			*fieldsOf(&f)[name] = n
			list[f] = rightFrame(f)
		}
	}
	for i := range 32 {
		f := frameOf("one")
		f.Tag[i]++
		list[f] = true
	}
	for n := range mostText + 1 {
		for _, text := range []string{"\x00", "a", "\xff"} {
			f := frameOf(strings.Repeat(text, n))
			f.Tag = [32]byte{}
			list[f] = true
		}
	}
	r := rand.New(rand.NewSource(97))
	for range 3000 {
		f := someFrame(r)
		list[f] = true
		f.Text += "\x00"
		list[f] = rightFrame(f)
	}
	var all []api.Frame
	for f, right := range list {
		if right {
			all = append(all, f)
		}
	}
	return all
}

// P9.4: different frames have different encodings, none of which is a prefix of another one.
func TestDifferentFrames(t *testing.T) {
	var codes []string
	for _, f := range manyFrames() {
		codes = append(codes, string(made(t, f)))
	}
	// If one of them is a prefix of another one, it is one of the next in this order, too.
	slices.Sort(codes)
	for i := range len(codes) - 1 {
		if strings.HasPrefix(codes[i+1], codes[i]) {
			t.Errorf("%x is a prefix of %x", codes[i], codes[i+1])
		}
	}
}

// P9.4: different entries have different encodings.
func TestDifferentEntries(t *testing.T) {
	list := map[api.Entry]bool{}
	for name := range entryFieldsOf(&api.Entry{}) {
		for _, n := range ends {
			e := anEntry()
			*entryFieldsOf(&e)[name] = n
			list[e] = rightEntry(e)
		}
	}
	for i := range 32 {
		e := anEntry()
		e.Prev[i]++
		list[e] = true
	}
	r := rand.New(rand.NewSource(98))
	for range 3000 {
		list[someEntry(r)] = true
	}
	from := map[string]api.Entry{}
	for e, right := range list {
		if !right {
			continue
		}
		s := textOf(t, e)
		if other, is := from[s]; is {
			t.Errorf("%#v and %#v are both %x", e, other, s)
		}
		from[s] = e
	}
}

// R3: no result shares memory with an argument or with another result.
func TestNothingIsShared(t *testing.T) {
	f := frameOf("a text of its own")
	b, want := made(t, f), made(t, f)
	read, err := ReadFrame(b)
	clear(b)
	if err != 0 || read != f {
		t.Errorf("a frame that was read is another one once its bytes are changed: %#v %d", read, err)
	}
	if again := made(t, f); !bytes.Equal(again, want) {
		t.Errorf("Frame: got %x once another result was changed, want %x", again, want)
	}
	said := Said(f)
	clear(said[:cap(said)])
	if again := Said(f); !bytes.Equal(again, want[:len(again)]) {
		t.Errorf("Said: got %x once another result was changed", again)
	}
	one, other := made(t, f), made(t, f)
	clear(one[:cap(one)])
	if !bytes.Equal(other, want) || !bytes.Equal(Said(f), want[:len(want)-tagBytes]) {
		t.Errorf("Frame: got %x once another result was changed, want %x", other, want)
	}
	if f != frameOf("a text of its own") {
		t.Errorf("the frame is changed: %#v", f)
	}
}

// R3: neither the bytes that are handed in nor those behind them are modified, whatever is read.
func TestNothingIsModified(t *testing.T) {
	whole := slices.Concat(made(t, frameOf("first")), made(t, frameOf("second")))
	room := bytes.Clone(whole)
	for n := range len(room) + 1 {
		ReadFrame(room[:n])
		if f, err := ReadFrame(room[:n]); err == 0 {
			Frame(f)
			Said(f)
		}
		if !bytes.Equal(room, whole) {
			t.Fatalf("ReadFrame of %d bytes modified what is there: %x", n, room)
		}
	}
}

// R4: calls that come before, with errors and without, change nothing.
func TestCallsAreIndependent(t *testing.T) {
	b, s := made(t, frameOf("same")), textOf(t, anEntry())
	for _, upset := range []func(){
		func() { ReadFrame(b[:20]) }, func() { ReadFrame(append(bytes.Clone(b), 1)) }, func() { ReadEntry(s[:20]) },
		func() { ReadEntry(s + s) }, func() { Frame(api.Frame{}) }, func() { Entry(api.Entry{}) }, func() { Said(api.Frame{Seq: -1}) },
	} {
		upset()
		if f, err := ReadFrame(b); err != 0 || f != frameOf("same") {
			t.Errorf("ReadFrame: got %#v %d", f, err)
		}
		if e, err := ReadEntry(s); err != 0 || e != anEntry() {
			t.Errorf("ReadEntry: got %#v %d", e, err)
		}
		if again := made(t, frameOf("same")); !bytes.Equal(again, b) {
			t.Errorf("Frame: got %x", again)
		}
		if again := textOf(t, anEntry()); again != s {
			t.Errorf("Entry: got %x", again)
		}
	}
}

// P0: inputs that are very long.
func TestLongInputs(t *testing.T) {
	long := make([]byte, 1<<24)
	if f, err := ReadFrame(long); err != form || f != (api.Frame{}) {
		t.Errorf("ReadFrame of zeros: got %#v %d", f, err)
	}
	copy(long, made(t, frameOf("ab")))
	if f, err := ReadFrame(long); err != form || f != (api.Frame{}) {
		t.Errorf("ReadFrame: got %#v %d", f, err)
	}
	text := string(long)
	if e, err := ReadEntry(text); err != form || e != (api.Entry{}) {
		t.Errorf("ReadEntry: got %#v %d", e, err)
	}
	if b, err := Frame(frameOf(text)); err != form || len(b) != 0 {
		t.Errorf("Frame: got %d bytes and %d", len(b), err)
	}
	if b := Said(frameOf(text)); len(b) != headBytes+len(text) || b[8] != 0 || b[9] != 0 || string(b[headBytes:]) != text {
		t.Errorf("Said: got %d bytes, %x", len(b), head(b))
	}
}

// P0, P9.1, P9.2, P9.4: any frame and any bytes at all.
func FuzzFrames(f *testing.F) {
	f.Add(2, 1, 3, 5, 258, "ab", []byte("tag"), []byte{2, 1, 3, 5, 0, 0, 1, 2, 0, 2, 'a', 'b'})
	f.Add(-1, 7, math.MinInt, math.MaxInt, 1<<32, strings.Repeat("x", 401), []byte(nil), make([]byte, 42))
	f.Add(4, 6, 6, 6, most, strings.Repeat("y", 400), make([]byte, 40), bytes.Repeat([]byte{1}, 400))
	f.Fuzz(func(t *testing.T, kind, from, to, origin, seq int, text string, tag, b []byte) {
		frame := api.Frame{Kind: kind, From: from, To: to, Origin: origin, Seq: seq, Text: text}
		copy(frame.Tag[:], tag)
		holdFrame(t, "a frame", frame)
		holdReadFrame(t, "bytes", b)
		holdReadFrame(t, "bytes behind what is said", append(Said(frame), b...))
	})
}

// P0, P9.3, P9.4: any entry and any text at all.
func FuzzEntries(f *testing.F) {
	f.Add(3, 7, 2, 1, 3, 4, 5, 6, []byte("prev"), "text")
	f.Add(6, -1, 8, math.MaxInt, math.MinInt, 16, 7, 0, []byte(nil), strings.Repeat("\x00", 63))
	f.Add(1, 0, 0, 0, 0, 0, 0, 1, make([]byte, 40), strings.Repeat("\x01", 52)+strings.Repeat("\x00", 11))
	f.Fuzz(func(t *testing.T, kind, seq, node, epoch, round, edge, peer, n int, prev []byte, s string) {
		e := api.Entry{Kind: kind, Seq: seq, Point: at(node, epoch, round), Edge: edge, Peer: peer, N: n}
		copy(e.Prev[:], prev)
		holdEntry(t, "an entry", e)
		holdReadEntry(t, "a text", s)
		holdReadEntry(t, "a text of fields", plainEntry(e))
		holdReadEntry(t, "a text of fields, and more", plainEntry(e)[:52]+s)
	})
}
