package link

import (
	"bytes"
	"crypto/hmac"
	"crypto/sha256"
	"encoding/binary"
	"encoding/hex"
	"math"
	"math/big"
	"math/rand"
	"slices"
	"strings"
	"sync"
	"testing"
	"unsafe"

	"garboard/api"
	"garboard/hash"
	"garboard/wire"
)

// The limits, the sizes and the errors, by their numbers, so that no test leans on the constants.
const (
	most      = 7
	mostSeq   = 1000000
	longest   = 400
	headBytes = 10
	tagBytes  = 32

	form  = api.Errno(2)
	short = api.Errno(3)
	mac   = api.Errno(11)
)

// ends are numbers around those of workers and of what is left of them modulo 256, and the type's own ends.
var ends = []int{
	math.MinInt, math.MinInt + 1, -1 << 32, -65536, -513, -512, -511, -257, -256, -255, -250, -7, -6, -2, -1,
	0, 1, 2, 3, 4, 5, 6, 7, 8, 127, 128, 250, 254, 255, 256, 257, 258, 262, 263, 511, 512, 513, 65535, 65536, 65537,
	mostSeq, mostSeq + 1, 1 << 31, 1 << 32, 1<<32 + 1, math.MaxInt - 1, math.MaxInt,
}

// secrets are of all lengths around that of a block, and differ by little.
var secrets = []string{
	"", "\x01", "s", "t", "S", "ss", "s\x01", "\x80", "\xff", "secret", strings.Repeat("s", 32), strings.Repeat("s", 63),
	strings.Repeat("s", 64), strings.Repeat("s", 65), strings.Repeat("s", 66), strings.Repeat("s", 127), strings.Repeat("s", 128), strings.Repeat("s", 129),
	strings.Repeat("s", 63) + "t", strings.Repeat("s", 64) + "t", "t" + strings.Repeat("s", 64), strings.Repeat("secret ", 2000),
}

// frameOf is a valid frame with a text.
func frameOf(text string) api.Frame {
	return api.Frame{Kind: 2, From: 1, To: 2, Origin: 3, Seq: 0x0A0B0C, Text: text}
}

// fieldsOf are the numbers of a frame, by their names.
func fieldsOf(f *api.Frame) map[string]*int {
	return map[string]*int{"Kind": &f.Kind, "From": &f.From, "To": &f.To, "Origin": &f.Origin, "Seq": &f.Seq}
}

func within(n, least, greatest int) bool { return least <= n && n <= greatest }

// right is the word of chapter 9: a valid frame.
func right(f api.Frame) bool {
	return within(f.Kind, 1, 4) && within(f.From, 0, 6) && within(f.To, 0, 6) && within(f.Origin, 0, 6) &&
		within(f.Seq, 0, mostSeq) && len(f.Text) <= longest
}

// wantMac is hash.Mac, by the library.
func wantMac(key, b []byte) [32]byte {
	m := hmac.New(sha256.New, key)
	m.Write(b)
	return [32]byte(m.Sum(nil))
}

// low is n modulo 256, which is never negative, by big numbers.
func low(n int) byte {
	return byte(new(big.Int).Mod(big.NewInt(int64(n)), big.NewInt(256)).Uint64())
}

// wantKey is Key by the words of P16.1.
func wantKey(secret string, a, b int) []byte {
	lesser, greater := a, b
	if b < a {
		lesser, greater = b, a
	}
	key := wantMac([]byte(secret), []byte{low(lesser), low(greater)})
	return key[:]
}

// wantSaid are the bytes of a valid frame that its tag is of.
func wantSaid(f api.Frame) []byte {
	b := []byte{byte(f.Kind), byte(f.From), byte(f.To), byte(f.Origin)}
	b = binary.BigEndian.AppendUint32(b, uint32(f.Seq))
	b = binary.BigEndian.AppendUint16(b, uint16(len(f.Text)))
	return append(b, f.Text...)
}

// wantTag is the tag that P16.2 speaks of, of a valid frame.
func wantTag(secret string, f api.Frame) [32]byte {
	return wantMac(wantKey(secret, f.From, f.To), wantSaid(f))
}

// wantSeal is Seal by the words of P16.2.
func wantSeal(secret string, f api.Frame) ([]byte, api.Errno) {
	if !right(f) {
		return nil, form
	}
	tag := wantTag(secret, f)
	return slices.Concat(wantSaid(f), tag[:]), 0
}

// wantReadFrame is wire.ReadFrame by the words of chapter 9.
func wantReadFrame(b []byte) (api.Frame, api.Errno) {
	if len(b) < headBytes {
		return api.Frame{}, short
	}
	length := int(binary.BigEndian.Uint16(b[8:10]))
	if len(b) < headBytes+length+tagBytes {
		return api.Frame{}, short
	}
	f := api.Frame{Kind: int(b[0]), From: int(b[1]), To: int(b[2]), Origin: int(b[3]), Seq: int(binary.BigEndian.Uint32(b[4:8]))}
	f.Text, f.Tag = string(b[10:10+length]), [32]byte(b[10+length:])
	if !right(f) || len(b) > headBytes+length+tagBytes {
		return api.Frame{}, form
	}
	return f, 0
}

// wantOpen is Open by the words of P16.2.
func wantOpen(secret string, b []byte) (api.Frame, api.Errno) {
	f, err := wantReadFrame(b)
	if err != 0 {
		return api.Frame{}, err
	}
	if f.Tag != wantTag(secret, f) {
		return api.Frame{}, mac
	}
	return f, 0
}

// wantAll is All by the words of P16.3.
func wantAll(secret string, n int, f api.Frame) [][]byte {
	var all [][]byte
	for to := 0; to < most && to < n; to++ {
		f.To = to
		if b, err := wantSeal(secret, f); err == 0 && to != f.From {
			all = append(all, b)
		}
	}
	return all
}

// head are so many bytes as a message can show.
func head(b []byte) []byte { return b[:min(len(b), 60)] }

// brief are so many of a secret.
func brief(secret string) string { return secret[:min(len(secret), 20)] }

// holdKey holds Key against what it should be, in both directions. It returns the key.
func holdKey(t *testing.T, secret string, a, b int) []byte {
	t.Helper()
	got, back, want := Key(secret, a, b), Key(secret, b, a), wantKey(secret, a, b)
	if len(got) != 32 || !bytes.Equal(got, want) {
		t.Errorf("Key(%q of %d, %d, %d): got %x, want %x", brief(secret), len(secret), a, b, got, want)
	}
	if !bytes.Equal(got, back) {
		t.Errorf("Key(%q of %d, %d, %d): got %x, in the other direction %x", brief(secret), len(secret), a, b, got, back)
	}
	return got
}

// holdSeal holds Seal of f against what it should be, and what it returns against Open. It returns the same.
func holdSeal(t *testing.T, what, secret string, f api.Frame) ([]byte, api.Errno) {
	t.Helper()
	got, err := Seal(secret, f)
	if want, wantErr := wantSeal(secret, f); err != wantErr || !bytes.Equal(got, want) {
		t.Errorf("%s: Seal(%q of %d, %#v): got %x %d, want %x %d", what, brief(secret), len(secret), f, head(got), err, head(want), wantErr)
	}
	if err != 0 {
		return got, err
	}
	tagged := f
	tagged.Tag = wantTag(secret, f)
	if back, err := Open(secret, got); err != 0 || back != tagged {
		t.Errorf("%s: Open of Seal: got %#v %d, want %#v", what, back, err, tagged)
	}
	if written, err := wire.Frame(tagged); err != 0 || !bytes.Equal(got, written) {
		t.Errorf("%s: Seal: got %x, but wire.Frame with the tag %x %d", what, head(got), head(written), err)
	}
	return got, 0
}

// holdOpen holds Open of b against what it should be, and what it returns against Seal. It returns the same.
func holdOpen(t *testing.T, what, secret string, b []byte) (api.Frame, api.Errno) {
	t.Helper()
	before := bytes.Clone(b)
	got, err := Open(secret, b)
	if want, wantErr := wantOpen(secret, b); got != want || err != wantErr {
		t.Errorf("%s: Open(%q of %d, %d bytes %x): got %#v %d, want %#v %d", what, brief(secret), len(secret), len(b), head(b), got, err, want, wantErr)
	}
	if again, errAgain := Open(secret, b); again != got || errAgain != err {
		t.Errorf("%s: Open again: got %#v %d, then %#v %d", what, got, err, again, errAgain)
	}
	if !bytes.Equal(b, before) {
		t.Errorf("%s: Open modified its argument", what)
	}
	if err == 0 {
		if again, err := Seal(secret, got); err != 0 || !bytes.Equal(again, b) {
			t.Errorf("%s: Seal of Open: got %x %d, want %x", what, head(again), err, head(b))
		}
	}
	return got, err
}

// refused expects of Open an error, and no frame beside it.
func refused(t *testing.T, what, secret string, b []byte, want api.Errno) {
	t.Helper()
	if f, err := holdOpen(t, what, secret, b); f != (api.Frame{}) || err != want {
		t.Errorf("%s: got %#v %d, want %d", what, f, err, want)
	}
}

// holdAll holds All against what it should be, and each of its results against Seal. It returns the workers that they are to.
func holdAll(t *testing.T, what, secret string, n int, f api.Frame) []int {
	t.Helper()
	got, want := All(secret, n, f), wantAll(secret, n, f)
	if !slices.EqualFunc(got, want, bytes.Equal) {
		t.Errorf("%s: All(%q, %d, %#v): got %x, want %x", what, brief(secret), n, f, got, want)
	}
	var to []int
	for _, b := range got {
		opened, err := Open(secret, b)
		f.To, f.Tag = opened.To, opened.Tag
		if err != 0 || opened != f || opened.To == f.From {
			t.Errorf("%s: a result: got %#v %d", what, opened, err)
		}
		if sealed, err := Seal(secret, f); err != 0 || !bytes.Equal(sealed, b) {
			t.Errorf("%s: to %d: got %x, but Seal %x %d", what, f.To, head(b), head(sealed), err)
		}
		to = append(to, opened.To)
	}
	return to
}

// sealed are the bytes of a frame that is expected to have some.
func sealed(t *testing.T, secret string, f api.Frame) []byte {
	t.Helper()
	b, err := Seal(secret, f)
	if err != 0 || len(b) != headBytes+len(f.Text)+tagBytes {
		t.Fatalf("Seal(%#v): got %d bytes and %d", f, len(b), err)
	}
	return b
}

// written are the bytes of a frame with the tag that it has.
func written(t *testing.T, f api.Frame) []byte {
	t.Helper()
	b, err := wire.Frame(f)
	if err != 0 {
		t.Fatalf("wire.Frame(%#v): got %d", f, err)
	}
	return b
}

// fromHex are the bytes of a text in hexadecimal, without its spaces.
func fromHex(t *testing.T, s string) []byte {
	t.Helper()
	b, err := hex.DecodeString(strings.ReplaceAll(s, " ", ""))
	if err != nil {
		t.Fatal(err)
	}
	return b
}

// ascending are the bytes from 0 on.
func ascending(n int) string {
	b := make([]byte, n)
	for i := range b {
		b[i] = byte(i)
	}
	return string(b)
}

// The chapter's example: 44 bytes, and ErrMac when the last byte is changed.
func TestExample(t *testing.T) {
	b := sealed(t, "secret", frameOf("ab"))
	if len(b) != 44 {
		t.Errorf("got %d bytes", len(b))
	}
	if f, err := Open("secret", b); err != 0 || f.Text != "ab" {
		t.Errorf("got %#v %d", f, err)
	}
	for change := 1; change < 256; change++ {
		other := bytes.Clone(b)
		other[43] ^= byte(change)
		if f, err := Open("secret", other); err != mac || f != (api.Frame{}) {
			t.Errorf("the last byte is %x, not %x: got %#v %d", other[43], b[43], f, err)
		}
	}
}

// P16.1: keys, written out.
func TestKeys(t *testing.T) {
	cases := []struct {
		secret string
		a, b   int
		want   string
	}{
		{"s", 1, 2, "e5e919e0aeeb7d4ab91b576224c64c2961f8a515315605f05fb7cb4d7eb1bec6"},
		{"", 0, 0, "b31825742c7dffdfdcea617f81eadcfb55e1f85f3a260abf40f38e6d00472c5a"},
		{"s", 0, 6, "9704363570010b385155cc3b307f67ad64fe02bfcf37717e338570d35e777142"},
		{"s", 3, 3, "96705267bd42622498974fabf21943e5f202d5c2877149a9374eff5434fd6032"},
		{"s", 255, 256, "78331741b613adb0ec447000f07d68d8303b6e8a4fc6fe8535827741e7ca8d4d"},  // ff 00
		{"s", -1, 0, "78331741b613adb0ec447000f07d68d8303b6e8a4fc6fe8535827741e7ca8d4d"},     // ff 00
		{"s", -256, 257, "9a815b6a3c401883253abb06ab19af5e1dc64c372b665c5b776feb51d97ec3d9"}, // 00 01
		{"s", 300, 5, "a82efa75b8b8f338db6287c25c2af085ddb7001057f0ca340035aeb255a61b54"},    // 05 2c
		{ascending(64), 1, 2, "140caa93b55406d83e29abbb8870cd7aa572e095962691163bc48ed587a5b23c"},
		{ascending(65), 1, 2, "ba8f55182096f9720c51d30acfb2036811c9399007577759a47b6be167cd5f31"},
		{strings.Repeat("x", 1000), 4, 5, "077aab97cb873e46c61734858f01d54ab1e0c3e8d8030f62c4fd4b8b6dd79cf8"},
		{"\x00\xff\x80", 6, 1, "f9a7dbfdbcda752e60f8dc6ff91c63242ebeb80465e9209441ba4e997b4ed98d"},
	}
	for _, c := range cases {
		want := fromHex(t, c.want)
		for _, got := range [][]byte{Key(c.secret, c.a, c.b), Key(c.secret, c.b, c.a)} {
			if !bytes.Equal(got, want) {
				t.Errorf("%q, %d and %d: got %x, want %s", brief(c.secret), c.a, c.b, got, c.want)
			}
		}
		holdKey(t, c.secret, c.a, c.b)
	}
}

// P16.1: the two bytes that a key is of, written out: the lesser number's one is first, whichever byte is less.
func TestBytesOfKeys(t *testing.T) {
	cases := []struct {
		a, b          int
		first, second byte
	}{
		{0, 0, 0, 0}, {0, 6, 0, 6}, {5, 4, 4, 5}, {6, 6, 6, 6}, {7, 8, 7, 8}, {127, 128, 127, 128}, {254, 255, 254, 255}, {255, 255, 255, 255},
		{255, 256, 255, 0}, {0, 256, 0, 0}, {1, 256, 1, 0}, {2, 257, 2, 1}, {1, 258, 1, 2}, {256, 256, 0, 0}, {256, 257, 0, 1}, {511, 512, 255, 0},
		{-1, 0, 255, 0}, {-1, 255, 255, 255}, {-1, -2, 254, 255}, {-1, -1, 255, 255}, {-255, 2, 1, 2}, {-256, 1, 0, 1}, {-256, -1, 0, 255}, {-257, -256, 255, 0},
		{65535, 65536, 255, 0}, {1 << 32, 3, 3, 0}, {-1 << 32, 3, 0, 3},
		{math.MinInt, math.MaxInt, 0, 255}, {math.MinInt, 0, 0, 0}, {math.MinInt + 1, math.MinInt, 0, 1}, {math.MaxInt, 0, 0, 255}, {math.MaxInt - 1, math.MaxInt, 254, 255}, {math.MinInt, math.MinInt, 0, 0},
	}
	for _, c := range cases {
		want := wantMac([]byte("secret"), []byte{c.first, c.second})
		for _, got := range [][]byte{Key("secret", c.a, c.b), Key("secret", c.b, c.a)} {
			if !bytes.Equal(got, want[:]) {
				t.Errorf("%d and %d: got %x, want %x, that of %d and %d", c.a, c.b, got, want, c.first, c.second)
			}
		}
	}
}

// P16.1, P16.4: any two numbers, and any secret: 32 bytes, the same in both directions.
func TestKeyOfAny(t *testing.T) {
	for _, a := range ends {
		for _, b := range ends {
			holdKey(t, "secret", a, b)
		}
	}
	for _, secret := range secrets {
		for a := range most {
			for b := range most {
				holdKey(t, secret, a, b)
			}
		}
	}
	for length := range 200 {
		holdKey(t, strings.Repeat("k", length), 4, 2)
		holdKey(t, ascending(length), 2, 4)
	}
	holdKey(t, strings.Repeat("long", 1<<20), 4, 2)
}

// P16.1: no two secrets, and no two pairs of workers, have the same key; other numbers do if their bytes are the same.
func TestKeysDiffer(t *testing.T) {
	whose := map[string]string{}
	for _, secret := range secrets {
		for a := range most {
			for b := a; b < most; b++ {
				key, name := string(Key(secret, a, b)), secret+" "+string([]byte{byte('0' + a), byte('0' + b)})
				if other, is := whose[key]; is {
					t.Errorf("%q and %q have the same key", name, other)
				}
				whose[key] = name
			}
		}
	}
	if len(whose) != len(secrets)*28 {
		t.Errorf("the test is wrong: %d keys", len(whose))
	}
	if !bytes.Equal(Key("s", 1, 2), Key("s", 257, 258)) || !bytes.Equal(Key("s", 1, 2), Key("s", -255, 2)) {
		t.Error("numbers are not taken modulo 256")
	}
	if bytes.Equal(Key("s", 1, 2), Key("s", 2, 257)) || bytes.Equal(Key("s", 255, 0), Key("s", -1, 0)) {
		t.Error("the numbers are compared when they have been taken modulo 256")
	}
}

// P16.1: as hash.Mac has it, zero bytes behind a secret do not matter up to 64 bytes, and a longer one is the same as its hash.
func TestSecretsThatAreTheSame(t *testing.T) {
	for length := range 65 {
		secret := strings.Repeat("k", length)
		for more := range 68 - length {
			is := bytes.Equal(Key(secret, 0, 1), Key(secret+strings.Repeat("\x00", more), 0, 1))
			if want := length+more <= 64 || more == 0; is != want {
				t.Errorf("%d bytes and %d zeros: got %v, want %v", length, more, is, want)
			}
		}
	}
	for _, length := range []int{65, 66, 128, 1000} {
		sum := sha256.Sum256([]byte(ascending(length)))
		if !bytes.Equal(Key(ascending(length), 0, 1), Key(string(sum[:]), 0, 1)) {
			t.Errorf("a secret of %d bytes has another key than its hash", length)
		}
	}
}

// P16.2: sealed frames, written out.
func TestSealedBytes(t *testing.T) {
	cases := []struct {
		name   string
		secret string
		f      api.Frame
		want   string
	}{
		{"a text of two bytes", "s", api.Frame{Kind: 2, From: 1, To: 2, Origin: 3, Seq: 4, Text: "ab"},
			"02 01 02 03 00000004 0002 6162 c0c2a9e16e6996474631b7dabfbf39755ae376d9f232539f1441cce9bfacbc0f"},
		{"no text", "s", api.Frame{Kind: 1, From: 0, To: 6},
			"01 00 06 00 00000000 0000 501ae8e5c6756d3b0d36fe1a2c2a694e8a256a6ea35a81feeb20f5926e2b2cc8"},
		{"no secret, to itself", "", api.Frame{Kind: 4, From: 6, To: 6, Origin: 6, Seq: 1000000, Text: "\x00\xff"},
			"04 06 06 06 000f4240 0002 00ff 72c4f962be4999ce08e67d14b5c37a2200b08f8bd9102bca1b8f0c0993d4e819"},
		{"a long secret, to a lesser number", strings.Repeat("x", 100), api.Frame{Kind: 3, From: 5, Origin: 1, Seq: 65536, Text: "text"},
			"03 05 00 01 00010000 0004 74657874 43a67a2b7d3f75824d54928b88c763bad735aae7ce3488de77e38ae5804f3086"},
	}
	for _, c := range cases {
		want := fromHex(t, c.want)
		if got, err := Seal(c.secret, c.f); err != 0 || !bytes.Equal(got, want) {
			t.Errorf("%s: got %x %d", c.name, got, err)
		}
		tagged := c.f
		tagged.Tag = [32]byte(want[len(want)-tagBytes:])
		if got, err := Open(c.secret, want); err != 0 || got != tagged {
			t.Errorf("%s: Open: got %#v %d", c.name, got, err)
		}
	}
}

// P16.2: the tag is what chapter 1 and chapter 9 make of the key and of what the frame says.
func TestTagIsOfTheLayersBelow(t *testing.T) {
	for _, secret := range secrets {
		f := frameOf("text")
		tag := hash.Mac(Key(secret, 1, 2), wire.Said(f))
		if opened, err := Open(secret, sealed(t, secret, f)); err != 0 || opened.Tag != tag {
			t.Errorf("%q: got %x %d, want %x", brief(secret), opened.Tag, err, tag)
		}
		f.Tag = tag
		if opened, err := Open(secret, written(t, f)); err != 0 || opened != f {
			t.Errorf("%q: got %#v %d", brief(secret), opened, err)
		}
	}
}

// P16.2: each field just within and just beyond what is valid, and far beyond; beside ErrForm there are no bytes.
func TestSealLimits(t *testing.T) {
	limits := map[string][2]int{"Kind": {1, 4}, "From": {0, 6}, "To": {0, 6}, "Origin": {0, 6}, "Seq": {0, 1000000}}
	for name, limit := range limits {
		for _, n := range append(ends, limit[0]-1, limit[0], limit[1], limit[1]+1) {
			f := frameOf("text")
			*fieldsOf(&f)[name] = n
			want := form
			if within(n, limit[0], limit[1]) {
				want = 0
			}
			if b, err := holdSeal(t, name, "secret", f); err != want || (len(b) == 0) != (want != 0) {
				t.Errorf("%s is %d: got %x %d, want %d", name, n, b, err, want)
			}
		}
	}
	for _, f := range []api.Frame{{}, {Kind: -1, From: -1, To: -1, Origin: -1, Seq: -1}, {Kind: 257, From: 258, To: 259, Origin: 260, Seq: 1<<32 + 1}} {
		if b, err := holdSeal(t, "several fields", "secret", f); err != form || len(b) != 0 {
			t.Errorf("%#v: got %x %d", f, b, err)
		}
	}
}

// P16.2: texts of any length, and of any bytes.
func TestSealTexts(t *testing.T) {
	for length := range 403 {
		b, err := holdSeal(t, "a text", "secret", frameOf(strings.Repeat("\xfe", length)))
		if length <= longest && (err != 0 || len(b) != 42+length) || length > longest && (err != form || len(b) != 0) {
			t.Errorf("a text of %d bytes: got %d bytes and %d", length, len(b), err)
		}
	}
	for _, length := range []int{512, 65535, 65536, 65536 + 2, 65536 + 400, 131072, 1 << 24} {
		if b, err := holdSeal(t, "a long text", "secret", frameOf(strings.Repeat("x", length))); err != form || len(b) != 0 {
			t.Errorf("a text of %d bytes: got %d bytes and %d", length, len(b), err)
		}
	}
	for _, text := range []string{"", "\x00", "\x00\x00", "é€", "\xff\x80", ascending(256), strings.Repeat("\x00", 400)} {
		holdSeal(t, "a text", "secret", frameOf(text))
	}
}

// P16.2: each valid number of worker and kind, with each other one, to oneself as well.
func TestSealOfEachPair(t *testing.T) {
	for from := range most {
		for to := range most {
			for kind := 1; kind <= 4; kind++ {
				for origin := range most {
					f := api.Frame{Kind: kind, From: from, To: to, Origin: origin, Seq: 7, Text: "text"}
					if _, err := holdSeal(t, "a pair", "secret", f); err != 0 {
						t.Errorf("%#v: got %d", f, err)
					}
				}
			}
		}
	}
}

// P16.2: the Tag that a frame has when it is sealed does not matter.
func TestTagThatWasSet(t *testing.T) {
	f := frameOf("tagged")
	want := sealed(t, "secret", f)
	opened, _ := Open("secret", want)
	for _, tag := range [][32]byte{{0: 1}, {31: 1}, {5: 255}, opened.Tag, [32]byte([]byte(strings.Repeat("\xff", 32)))} {
		f.Tag = tag
		if b, err := holdSeal(t, "a tag", "secret", f); err != 0 || !bytes.Equal(b, want) {
			t.Errorf("tag %x: got %x %d, want %x", tag, b, err, want)
		}
		if all := All("secret", 3, f); len(all) != 2 || !bytes.Equal(all[1], want) {
			t.Errorf("tag %x: All: got %x", tag, all)
		}
	}
}

// P16.2: no bytes, and fewer or more than a frame has.
func TestOpenOfFewAndMany(t *testing.T) {
	refused(t, "nil", "secret", nil, short)
	refused(t, "empty", "secret", []byte{}, short)
	for n := range headBytes + tagBytes {
		for _, fill := range []byte{0, 1, 255} {
			refused(t, "few bytes", "secret", bytes.Repeat([]byte{fill}, n), short)
		}
	}
	for _, length := range []int{0, 1, 2, 31, 32, 33, 256, 400} {
		b := sealed(t, "secret", frameOf(strings.Repeat("x", length)))
		for n := range b {
			refused(t, "fewer bytes", "secret", b[:n], short)
		}
		for _, more := range []string{"\x00", "\x01", "\x00\x00", strings.Repeat("\x00", 32), string(b), strings.Repeat("x", 1<<20)} {
			refused(t, "more bytes", "secret", slices.Concat(b, []byte(more)), form)
		}
		for n := 1; n < len(b); n++ {
			if _, err := holdOpen(t, "no beginning", "secret", b[n:]); err == 0 {
				t.Errorf("without the first %d bytes: got no error", n)
			}
		}
	}
}

// P16.2: bytes that are no frame are so also with the tag that such a frame would have, and ahead of any fault of the tag.
func TestOpenOfNoFrame(t *testing.T) {
	cases := []struct {
		name string
		at   int
		to   byte
		want api.Errno
	}{
		{"no kind", 0, 0, form}, {"kind 5", 0, 5, form}, {"kind 255", 0, 255, form},
		{"from 7", 1, 7, form}, {"from 255", 1, 255, form}, {"to 7", 2, 7, form}, {"to 255", 2, 255, form},
		{"origin 7", 3, 7, form}, {"origin 255", 3, 255, form}, {"a number of four bytes", 4, 1, form}, {"a number of 1048576 and more", 5, 0x10, form},
		{"one byte less", 9, 1, form}, {"one byte more", 9, 3, short}, {"256 bytes more", 8, 1, short}, {"far more", 8, 255, short},
	}
	for _, c := range cases {
		b := sealed(t, "secret", frameOf("ab"))
		b[c.at] = c.to
		refused(t, c.name, "secret", b, c.want)
		tag := wantMac(wantKey("secret", int(b[1]), int(b[2])), b[:12])
		refused(t, c.name+", tagged", "secret", slices.Concat(b[:12], tag[:]), c.want)
		clear(b[12:])
		refused(t, c.name+", with no tag", "secret", b, c.want)
	}
	long := make([]byte, headBytes+401+tagBytes)
	copy(long, []byte{1, 0, 1, 0, 0, 0, 0, 0, 401 >> 8, 401 & 255})
	tag := wantMac(wantKey("secret", 0, 1), long[:headBytes+401])
	copy(long[headBytes+401:], tag[:])
	refused(t, "a text of 401 bytes", "secret", long, form)
}

// P16.2: sealed bytes of which any one is changed, to any other one.
func TestOneByteChanged(t *testing.T) {
	got := map[api.Errno]int{}
	for _, f := range []api.Frame{frameOf(""), frameOf("ab"), {Kind: 1}, {Kind: 4, From: 6, To: 5, Origin: 6, Seq: mostSeq, Text: "\xff"}} {
		b := sealed(t, "secret", f)
		for i := range b {
			for change := 1; change < 256; change++ {
				b[i] ^= byte(change)
				opened, err := holdOpen(t, "one byte changed", "secret", b)
				if err == 0 || opened != (api.Frame{}) {
					t.Errorf("byte %d is changed by %x: got %#v %d", i, change, opened, err)
				}
				if i >= headBytes && err != mac {
					t.Errorf("byte %d, of the text or the tag, is changed by %x: got %d", i, change, err)
				}
				got[err]++
				b[i] ^= byte(change)
			}
		}
		if _, err := Open("secret", b); err != 0 {
			t.Errorf("the test is wrong: got %d", err)
		}
	}
	if got[form] == 0 || got[short] == 0 || got[mac] == 0 || len(got) != 3 {
		t.Errorf("the test is wrong: got %v", got)
	}
}

// P16.2: any one bit of a long frame.
func TestOneBitChanged(t *testing.T) {
	f := frameOf(ascending(256) + strings.Repeat("x", 144))
	b := sealed(t, "secret", f)
	for i := range b {
		for bit := range 8 {
			b[i] ^= 1 << bit
			if opened, err := Open("secret", b); err == 0 || opened != (api.Frame{}) || i >= headBytes && err != mac {
				t.Errorf("bit %d of byte %d is changed: got %#v %d", bit, i, opened, err)
			}
			b[i] ^= 1 << bit
		}
	}
}

// P16.2: bytes that another secret has sealed.
func TestOtherSecrets(t *testing.T) {
	for _, own := range secrets {
		b := sealed(t, own, frameOf("ab"))
		for _, other := range secrets {
			if other != own {
				refused(t, "another secret", other, b, mac)
			}
		}
		if _, err := holdOpen(t, "the secret", own, b); err != 0 {
			t.Errorf("%q: got %d", brief(own), err)
		}
	}
}

// P16.2: a tag that is right for another pair of workers, in another direction, or for another frame of the same pair.
func TestOtherTags(t *testing.T) {
	var all []api.Frame
	for from := range most {
		for to := range most {
			for _, f := range []api.Frame{{Kind: 1}, {Kind: 2}, {Kind: 1, Origin: 1}, {Kind: 1, Seq: 1}, {Kind: 1, Seq: 256}, {Kind: 1, Text: "a"}, {Kind: 1, Text: "b"}} {
				f.From, f.To = from, to
				f.Tag = wantTag("secret", f)
				all = append(all, f)
			}
		}
	}
	for i, f := range all {
		for j, other := range all {
			want := mac
			if i == j {
				want = 0
			}
			moved := f
			moved.Tag = other.Tag
			if got, err := Open("secret", written(t, moved)); err != want || (got == f) != (i == j) {
				t.Errorf("%#v with the tag of %#v: got %#v %d, want %d", f, other, got, err, want)
			}
		}
	}
}

// P16.2: the tag is by the key of the frame's own pair, not by another one that its receiver may have, nor by the secret itself.
func TestTagsByOtherKeys(t *testing.T) {
	f := frameOf("ab")
	for a := range most {
		for b := range most {
			f.Tag = wantMac(wantKey("secret", a, b), wantSaid(f))
			want := mac
			if a == 1 && b == 2 || a == 2 && b == 1 {
				want = 0
			}
			if _, err := holdOpen(t, "another key", "secret", written(t, f)); err != want {
				t.Errorf("the key of %d and %d: got %d, want %d", a, b, err, want)
			}
		}
	}
	whole, exchanged := sealed(t, "secret", f), wantMac([]byte("secret"), []byte{2, 1})
	for name, tag := range map[string][32]byte{
		"none":                   {},
		"the secret as the key":  wantMac([]byte("secret"), wantSaid(f)),
		"the hash":               sha256.Sum256(wantSaid(f)),
		"the key":                [32]byte(wantKey("secret", 1, 2)),
		"no key":                 wantMac(nil, wantSaid(f)),
		"of the tag as well":     wantMac(wantKey("secret", 1, 2), whole),
		"of the text alone":      wantMac(wantKey("secret", 1, 2), []byte("ab")),
		"of nothing":             wantMac(wantKey("secret", 1, 2), nil),
		"of the empty tag, too":  wantMac(wantKey("secret", 1, 2), append(wantSaid(f), make([]byte, 32)...)),
		"by the bytes exchanged": wantMac(exchanged[:], wantSaid(f)),
	} {
		f.Tag = tag
		refused(t, name, "secret", written(t, f), mac)
	}
}

// P16.3: the workers that a frame goes to, written out.
func TestAll(t *testing.T) {
	cases := []struct {
		n, from int
		want    []int
	}{
		{0, 0, nil}, {1, 0, nil}, {1, 1, []int{0}}, {1, 6, []int{0}}, {2, 0, []int{1}}, {2, 1, []int{0}}, {2, 2, []int{0, 1}},
		{4, 0, []int{1, 2, 3}}, {4, 1, []int{0, 2, 3}}, {4, 3, []int{0, 1, 2}}, {4, 4, []int{0, 1, 2, 3}}, {4, 6, []int{0, 1, 2, 3}},
		{6, 5, []int{0, 1, 2, 3, 4}}, {6, 6, []int{0, 1, 2, 3, 4, 5}},
		{7, 0, []int{1, 2, 3, 4, 5, 6}}, {7, 3, []int{0, 1, 2, 4, 5, 6}}, {7, 6, []int{0, 1, 2, 3, 4, 5}},
		{8, 6, []int{0, 1, 2, 3, 4, 5}}, {8, 0, []int{1, 2, 3, 4, 5, 6}}, {1000, 2, []int{0, 1, 3, 4, 5, 6}}, {math.MaxInt, 2, []int{0, 1, 3, 4, 5, 6}},
		{256, 0, []int{1, 2, 3, 4, 5, 6}}, {1 << 32, 1, []int{0, 2, 3, 4, 5, 6}},
		{-1, 0, nil}, {-7, 1, nil}, {-252, 1, nil}, {math.MinInt, 2, nil},
		{4, 7, nil}, {8, 7, nil}, {7, -1, nil}, {7, 256, nil}, {7, 257, nil}, {7, math.MaxInt, nil}, {7, math.MinInt, nil},
	}
	for _, c := range cases {
		f := frameOf("ab")
		f.From = c.from
		if got := holdAll(t, "written out", "secret", c.n, f); !slices.Equal(got, c.want) {
			t.Errorf("n %d, from %d: got %v, want %v", c.n, c.from, got, c.want)
		}
		if got := All("secret", c.n, f); len(got) != len(c.want) {
			t.Errorf("n %d, from %d: got %d results, want %d", c.n, c.from, len(got), len(c.want))
		}
	}
}

// P16.3: any n, and any From.
func TestAllOfAny(t *testing.T) {
	for _, n := range ends {
		for _, from := range ends {
			f := frameOf("ab")
			f.From = from
			holdAll(t, "any", "secret", n, f)
		}
	}
}

// P16.3: a frame that cannot be written leads to nothing; the To that it has does not matter.
func TestAllOfFrames(t *testing.T) {
	for name := range fieldsOf(&api.Frame{}) {
		for _, n := range ends {
			f := frameOf("text")
			*fieldsOf(&f)[name] = n
			to := holdAll(t, name, "secret", 4, f)
			f.To = 0
			if want := len(wantAll("secret", 4, f)); len(to) != want || name == "To" && want != 3 {
				t.Errorf("%s is %d: got %v, want %d", name, n, to, want)
			}
		}
	}
	for _, length := range []int{0, 1, 399, 400, 401, 402, 65536, 65538} {
		want := 6
		if length > longest {
			want = 0
		}
		if to := holdAll(t, "a text", "secret", 7, frameOf(strings.Repeat("x", length))); len(to) != want {
			t.Errorf("a text of %d bytes: got %v", length, to)
		}
	}
	for _, secret := range secrets {
		holdAll(t, "a secret", secret, 7, frameOf("ab"))
	}
}

// P16.3: each result opens for its receiver alone: with another To the tag is another one.
func TestResultsOfAllDiffer(t *testing.T) {
	all := All("secret", 7, frameOf("ab"))
	for i, b := range all {
		for j, other := range all {
			changed := bytes.Clone(b)
			changed[2] = other[2]
			want := mac
			if i == j {
				want = 0
			}
			if f, err := Open("secret", changed); err != want {
				t.Errorf("to %d instead of %d: got %#v %d, want %d", other[2], b[2], f, err, want)
			}
		}
	}
}

// someFrame is a frame that is valid more often than not.
func someFrame(r *rand.Rand) api.Frame {
	f := api.Frame{Kind: 1 + r.Intn(4), From: r.Intn(7), To: r.Intn(7), Origin: r.Intn(7), Seq: r.Intn(mostSeq + 1)}
	text := make([]byte, r.Intn(50)*r.Intn(9))
	r.Read(text)
	f.Text = string(text)
	if r.Intn(4) == 0 {
		names := []string{"Kind", "From", "To", "Origin", "Seq"}
		*fieldsOf(&f)[names[r.Intn(5)]] = ends[r.Intn(len(ends))]
	}
	if r.Intn(2) == 0 {
		r.Read(f.Tag[:])
	}
	return f
}

// spoilt are bytes that differ from b by little, or not at all.
func spoilt(r *rand.Rand, b []byte) []byte {
	b = bytes.Clone(b)
	for range r.Intn(3) {
		at := r.Intn(len(b) + 1)
		switch r.Intn(4) {
		case 0:
			b = slices.Insert(b, at, byte(r.Intn(256)))
		case 1:
			b = append(b[:at:at], b[min(at+1, len(b)):]...)
		case 2:
			b = b[:at]
		default:
			if at < len(b) {
				b[at] ^= 1 << r.Intn(8)
			}
		}
	}
	return b
}

// P16.2 to P16.4: frames by chance, and their sealed bytes, changed in a few places.
func TestByChance(t *testing.T) {
	r := rand.New(rand.NewSource(1))
	got := map[api.Errno]int{}
	for range 4000 {
		secret, f := secrets[r.Intn(len(secrets)-1)], someFrame(r)
		b, err := holdSeal(t, "by chance", secret, f)
		if err != 0 {
			f.From, f.Kind = 1, 1
			holdAll(t, "by chance", secret, r.Intn(9), f)
			continue
		}
		for range 4 {
			changed := spoilt(r, b)
			opened, err := holdOpen(t, "by chance", secret, changed)
			got[err]++
			if (err == 0) != bytes.Equal(changed, b) {
				t.Errorf("%x for %x: got %#v %d", head(changed), head(b), opened, err)
			}
		}
	}
	for _, err := range []api.Errno{0, form, short, mac} {
		if got[err] < 100 {
			t.Errorf("the test is wrong: got %v", got)
		}
	}
}

// P16.4: bytes that can be opened are the sealed form of their frame: of two different ones, the frames differ.
func TestDifferentFrames(t *testing.T) {
	whose := map[string]api.Frame{}
	for _, text := range []string{"", "\x00", "a", "b", "ab", "ba"} {
		for kind := 1; kind <= 4; kind++ {
			for from := range 3 {
				for to := range 3 {
					for origin := range 3 {
						for _, seq := range []int{0, 1, 2, 255, 256, 65536, mostSeq} {
							f := api.Frame{Kind: kind, From: from, To: to, Origin: origin, Seq: seq, Text: text}
							b := string(sealed(t, "secret", f))
							if other, is := whose[b]; is {
								t.Errorf("%#v and %#v have the same bytes", f, other)
							}
							whose[b] = f
						}
					}
				}
			}
		}
	}
	for b, f := range whose {
		opened, err := holdOpen(t, "of a frame", "secret", []byte(b))
		f.Tag = opened.Tag
		if err != 0 || opened != f {
			t.Errorf("%x: got %#v %d, want %#v", b, opened, err, f)
		}
	}
}

// R3: the bytes that are handed in stay as they are, and so do those behind them that they have room for.
func TestArgumentsStay(t *testing.T) {
	own := sealed(t, "secret", frameOf("ab"))
	for n := range len(own) + 1 {
		behind := bytes.Repeat([]byte{0xEE}, 600)
		b := append(slices.Clone(own[:n]), behind...)
		before := bytes.Clone(b)
		Open("secret", b[:n])
		Open("other", b[:n])
		if !bytes.Equal(b, before) {
			t.Errorf("%d bytes: Open changed what was handed in, or what is behind it", n)
		}
	}
}

// R3: a frame shares no memory with the bytes that it was in, which may be used for others.
func TestOpenedIsApart(t *testing.T) {
	b := sealed(t, "secret", frameOf("a text of some bytes"))
	opened, err := Open("secret", b)
	want := opened
	want.Text = strings.Clone(opened.Text)
	for i := range b {
		b[i] = 0xEE
	}
	if err != 0 || opened != want || opened.Text != "a text of some bytes" {
		t.Errorf("got %#v %d, want %#v", opened, err, want)
	}
}

// apart holds that two results share no memory, also not behind their ends.
func apart(t *testing.T, what string, a, b []byte) {
	t.Helper()
	start := func(b []byte) uintptr { return uintptr(unsafe.Pointer(unsafe.SliceData(b))) }
	if start(a) < start(b)+uintptr(cap(b)) && start(b) < start(a)+uintptr(cap(a)) {
		t.Errorf("%s share memory", what)
	}
}

// R3: results are the caller's own: what is written into one, or behind its end, reaches no other one, and no later one.
func TestResultsAreTheCallersOwn(t *testing.T) {
	long := strings.Repeat("a text of many bytes ", 10)
	results := func() [][]byte {
		l := [][]byte{Key("secret", 1, 2), Key("secret", 1, 2), Key("secret", 2, 1), Key(long, 0, 0)}
		l = append(l, sealed(t, "secret", frameOf("ab")), sealed(t, "secret", frameOf("ab")), sealed(t, "secret", frameOf(long)))
		return append(append(l, All("secret", 7, frameOf("ab"))...), All("secret", 7, frameOf(long))...)
	}
	first, second := results(), results()
	var want [][]byte
	for _, b := range second {
		want = append(want, bytes.Clone(b))
	}
	for i, a := range first {
		for j, b := range first {
			if i != j {
				apart(t, "results of one kind", a, b)
			}
			apart(t, "earlier and later results", a, second[j])
		}
	}
	for i, b := range first {
		if !bytes.Equal(b, want[i]) {
			t.Errorf("result %d: got %x, then %x", i, b, want[i])
		}
		b = b[:cap(b)]
		for k := range b {
			b[k] = 0xEE
		}
		for k := i + 1; k < len(first); k++ {
			if !bytes.Equal(first[k], want[k]) {
				t.Errorf("result %d reaches result %d", i, k)
			}
		}
	}
	for i, b := range results() {
		if !bytes.Equal(b, want[i]) || !bytes.Equal(second[i], want[i]) {
			t.Errorf("result %d: got %x and %x, want %x", i, b, second[i], want[i])
		}
	}
}

// R3: the list of All is the caller's own as well.
func TestListOfAllIsTheCallersOwn(t *testing.T) {
	one := All("secret", 4, frameOf("ab"))
	clear(one[:cap(one)])
	if two := All("secret", 4, frameOf("ab")); !slices.EqualFunc(two, wantAll("secret", 4, frameOf("ab")), bytes.Equal) {
		t.Errorf("got %x", two)
	}
}

// Ways: bytes are handed on without the room behind them, so that what is appended to them goes into new memory.
func TestNoRoomBehind(t *testing.T) {
	for _, b := range append(All("secret", 7, frameOf("ab")), Key("secret", 1, 2), sealed(t, "secret", frameOf("")), sealed(t, "secret", frameOf(strings.Repeat("x", 400)))) {
		if cap(b) != len(b) {
			t.Errorf("%d bytes have room for %d", len(b), cap(b))
		}
	}
}

// R4: a result depends on the arguments alone, not on what was sealed or opened ahead.
func TestResultsRepeat(t *testing.T) {
	r := rand.New(rand.NewSource(2))
	secret, f := "secret", frameOf("ab")
	key, b, all := Key(secret, 1, 2), sealed(t, secret, f), All(secret, 4, f)
	for range 200 {
		other := someFrame(r)
		Seal("other", other)
		Open("other", b)
		All("other", r.Intn(9), other)
		Key("other", r.Intn(9), r.Intn(9))
		Open(secret, spoilt(r, b))
		if !bytes.Equal(Key(secret, 1, 2), key) || !bytes.Equal(sealed(t, secret, f), b) || !slices.EqualFunc(All(secret, 4, f), all, bytes.Equal) {
			t.Fatal("a result is another one than before")
		}
		if opened, err := Open(secret, b); err != 0 || opened.Text != "ab" {
			t.Fatalf("got %#v %d", opened, err)
		}
	}
}

// R4: calls in several goroutines don't disturb one another.
func TestTogether(t *testing.T) {
	var all sync.WaitGroup
	for i := range 8 {
		r := rand.New(rand.NewSource(int64(i)))
		all.Go(func() {
			for range 100 {
				f := someFrame(r)
				if b, err := holdSeal(t, "together", secrets[i], f); err == 0 {
					holdOpen(t, "together", secrets[i+1], b)
					holdOpen(t, "together", secrets[i], spoilt(r, b))
				}
				holdAll(t, "together", secrets[i], r.Intn(9), f)
			}
		})
	}
	all.Wait()
}

// P0, P16.1 to P16.4: any secret, any frame and any bytes.
func FuzzLink(f *testing.F) {
	f.Add("secret", 2, 1, 2, 3, 4, "ab", 4, []byte("bytes"))
	f.Add("", 0, 0, 0, 0, 0, "", 0, []byte{})
	f.Add(strings.Repeat("s", 65), 4, 6, 0, 6, mostSeq, strings.Repeat("x", 400), 7, make([]byte, 42))
	f.Add("s", -1, 255, 256, -1, mostSeq+1, strings.Repeat("x", 401), -1, []byte{1, 0, 1, 0, 0, 0, 0, 0, 0, 0, 1})
	f.Add("s", 1, 255, 256, 0, 0, "", math.MaxInt, append([]byte{1}, make([]byte, 41)...))
	f.Fuzz(func(t *testing.T, secret string, kind, from, to, origin, seq int, text string, n int, b []byte) {
		holdKey(t, secret, from, to)
		frame := api.Frame{Kind: kind, From: from, To: to, Origin: origin, Seq: seq, Text: text}
		code, err := holdSeal(t, "any", secret, frame)
		holdAll(t, "any", secret, n, frame)
		holdOpen(t, "any", secret, b)
		if err != 0 {
			return
		}
		changed := bytes.Clone(code)
		for i, c := range b {
			changed[i%len(changed)] ^= c
		}
		if opened, err := holdOpen(t, "changed", secret, changed); (err == 0) != bytes.Equal(changed, code) {
			t.Errorf("%x for %x: got %#v %d", head(changed), head(code), opened, err)
		}
	})
}
