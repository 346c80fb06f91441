package hash

import (
	"bytes"
	"crypto/hmac"
	"crypto/sha256"
	"encoding/binary"
	"encoding/hex"
	"strings"
	"testing"
)

// edges are lengths around those of the padding and of a block.
var edges = []int{0, 1, 2, 54, 55, 56, 57, 62, 63, 64, 65, 118, 119, 120, 121, 127, 128, 129, 1000}

// keyEdges are lengths of keys around that of a block.
var keyEdges = []int{0, 1, 31, 32, 33, 63, 64, 65, 66, 127, 128, 129, 200}

// pattern is n bytes, no two neighbours of which are equal, and all bits of which are in use.
func pattern(n int) []byte {
	b := make([]byte, n)
	for i := range b {
		b[i] = byte(167*i + 91 + i>>8)
	}
	return b
}

// stdMac is the tag by the library.
func stdMac(key, b []byte) [32]byte {
	h := hmac.New(sha256.New, key)
	h.Write(b)
	return [32]byte(h.Sum(nil))
}

// wantHex checks a result against its hexadecimal digits.
func wantHex(t *testing.T, what string, got [32]byte, want string) {
	t.Helper()
	if s := hex.EncodeToString(got[:]); s != want {
		t.Errorf("%s: got %s, want %s", what, s, want)
	}
}

// unhex is the bytes of hexadecimal digits.
func unhex(t *testing.T, s string) []byte {
	t.Helper()
	b, err := hex.DecodeString(s)
	if err != nil {
		t.Fatal(err)
	}
	return b
}

// P1.1: what the standard publishes, the chapter's examples among it.
func TestSumPublished(t *testing.T) {
	cases := []struct{ name, in, want string }{
		{"empty", "", "e3b0c44298fc1c149afbf4c8996fb92427ae41e4649b934ca495991b7852b855"},
		{"abc", "abc", "ba7816bf8f01cfea414140de5dae2223b00361a396177a9cb410ff61f20015ad"},
		{"56 bytes", "abcdbcdecdefdefgefghfghighijhijkijkljklmklmnlmnomnopnopq",
			"248d6a61d20638b8e5c026930c3e6039a33ce45964ff2167f6ecedd419db06c1"},
		{"112 bytes", "abcdefghbcdefghicdefghijdefghijkefghijklfghijklmghijklmnhijklmnoijklmnopjklmnopqklmnopqrlmnopqrsmnopqrstnopqrstu",
			"cf5b16a778af8380036ce59e7b0492370b249b11e8f07a51afac45037afee9d1"},
		{"a million", strings.Repeat("a", 1000000), "cdc76e5c9914fb9281a1c7e284d73e67f1809a48a497200e046d39ccc7112cd0"},
	}
	for _, c := range cases {
		wantHex(t, c.name, Sum([]byte(c.in)), c.want)
	}
}

// P1.1: lengths at the edges of the padding and of a block, of bytes that the padding could be mistaken for among others.
func TestSumEdgesOfPadding(t *testing.T) {
	for _, n := range edges {
		for _, fill := range []byte{0, 'a', 0x80, 0xff} {
			b := bytes.Repeat([]byte{fill}, n)
			if got, want := Sum(b), sha256.Sum256(b); got != want {
				t.Errorf("Sum of %d times %#x: got %x, want %x", n, fill, got, want)
			}
		}
	}
}

// P1.1: each length of up to five blocks.
func TestSumEachLength(t *testing.T) {
	for n := range 5*64 + 1 {
		b := pattern(n)
		if got, want := Sum(b), sha256.Sum256(b); got != want {
			t.Errorf("Sum of %d bytes: got %x, want %x", n, got, want)
		}
	}
}

// P1.1: the length in bits takes all of its lower bytes. 2^21 bytes are 2^24 bits.
func TestSumLongLengths(t *testing.T) {
	for _, n := range []int{31, 32, 8191, 8192, 8193, 1<<21 - 1, 1 << 21, 1<<21 + 57} {
		b := pattern(n)
		if got, want := Sum(b), sha256.Sum256(b); got != want {
			t.Errorf("Sum of %d bytes: got %x, want %x", n, got, want)
		}
	}
}

// P1.1: the length takes all eight bytes. No input of a test is long enough, so one is said to be ahead.
func TestLengthTakesEightBytes(t *testing.T) {
	for _, ahead := range []uint64{1 << 29, 1<<31 - 64, 1 << 32, 0x0123456789abcdc0} {
		block := [64]byte{0: 0x80}
		binary.BigEndian.PutUint64(block[56:], 8*ahead)
		if got, want := finish(initial(), ahead, nil), bytesOf(absorb(initial(), block)); got != want {
			t.Errorf("%d bytes ahead: got %x, want %x", ahead, got, want)
		}
	}
}

// P1.1: each bit of the input counts.
func TestSumEachBitCounts(t *testing.T) {
	b := pattern(130)
	seen := map[[32]byte]int{Sum(b): -1}
	for i := range 8 * len(b) {
		b[i/8] ^= 1 << (i % 8)
		s := Sum(b)
		if s != sha256.Sum256(b) {
			t.Errorf("bit %d: got %x", i, s)
		}
		if j, ok := seen[s]; ok {
			t.Errorf("bits %d and %d: the same hash", i, j)
		}
		seen[s] = i
		b[i/8] ^= 1 << (i % 8)
	}
}

// P1.2: the test cases of RFC 4231 but the fifth, whose tag is cut short there; the second one is the chapter's example.
func TestMacPublished(t *testing.T) {
	cases := []struct{ name, key, in, want string }{
		{"case 1", strings.Repeat("0b", 20), hex.EncodeToString([]byte("Hi There")),
			"b0344c61d8db38535ca8afceaf0bf12b881dc200c9833da726e9376c2e32cff7"},
		{"case 2", hex.EncodeToString([]byte("Jefe")), hex.EncodeToString([]byte("what do ya want for nothing?")),
			"5bdcc146bf60754e6a042426089575c75a003f089d2739839dec58b964ec3843"},
		{"case 3", strings.Repeat("aa", 20), strings.Repeat("dd", 50),
			"773ea91e36800e46854db8ebd09181a72959098b3ef8c122d9635514ced565fe"},
		{"case 4", "0102030405060708090a0b0c0d0e0f10111213141516171819", strings.Repeat("cd", 50),
			"82558a389a443c0ea4cc819899f2083a85f0faa3e578f8077a2e3ff46729665b"},
		{"case 6", strings.Repeat("aa", 131), hex.EncodeToString([]byte("Test Using Larger Than Block-Size Key - Hash Key First")),
			"60e431591ee0b67f0d8a26aacbf5b77f8e0bc6213728c5140546040f0ee37f54"},
		{"case 7", strings.Repeat("aa", 131), hex.EncodeToString([]byte("This is a test using a larger than block-size key and a larger than block-size data. The key needs to be hashed before being used by the HMAC algorithm.")),
			"9b09ffa71b942fcb27635fbcd5b0e944bfdc63644f0713938a7f51535c3a35e2"},
		{"both empty", "", "", "b613679a0814d9ec772f95d778c35fc5ff1697c493715653c6c712144292c5ad"},
	}
	for _, c := range cases {
		wantHex(t, c.name, Mac(unhex(t, c.key), unhex(t, c.in)), c.want)
	}
}

// P1.2: keys and inputs at the edges of a block.
func TestMacEdges(t *testing.T) {
	for _, k := range keyEdges {
		for _, n := range edges {
			key, b := pattern(k), pattern(n)
			if got, want := Mac(key, b), stdMac(key, b); got != want {
				t.Errorf("Mac by %d bytes of %d bytes: got %x, want %x", k, n, got, want)
			}
		}
	}
}

// P1.2, word by word: Sum of k with 0x5C, followed by Sum of k with 0x36 followed by b.
func TestMacIsTwoSums(t *testing.T) {
	for _, size := range keyEdges {
		for _, n := range edges {
			key, b := pattern(size), pattern(n)
			k := bytes.Clone(key)
			if len(k) > 64 {
				s := Sum(k)
				k = s[:]
			}
			var in, out []byte
			for i := range 64 {
				c := byte(0)
				if i < len(k) {
					c = k[i]
				}
				in, out = append(in, c^0x36), append(out, c^0x5C)
			}
			inner := Sum(append(in, b...))
			if got, want := Mac(key, b), Sum(append(out, inner[:]...)); got != want {
				t.Errorf("Mac by %d bytes of %d bytes: got %x, want %x", size, n, got, want)
			}
		}
	}
}

// P1.3: equal ones are the same; a single bit anywhere, or every byte, makes them unlike.
func TestSame(t *testing.T) {
	ones := [32]byte(bytes.Repeat([]byte{0xff}, 32))
	for _, a := range [][32]byte{{}, ones, Sum(nil), Sum([]byte("abc"))} {
		b := a
		if !Same(a, b) {
			t.Errorf("%x is not the same as itself", a)
		}
		for i := range 256 {
			b = a
			b[i/8] ^= 1 << (i % 8)
			if Same(a, b) || Same(b, a) {
				t.Errorf("%x: the same though bit %d is unlike", a, i)
			}
		}
	}
	if Same([32]byte{}, ones) || Same(ones, [32]byte{}) {
		t.Error("zeros and ones are the same")
	}
}

// P1.3: differences in several bytes do not cancel out, neither by xor nor by sum.
func TestSameDifferencesDoNotCancel(t *testing.T) {
	a := Sum([]byte("abc"))
	for i := range a {
		for j := range i {
			b := a
			b[i] ^= 0x81
			b[j] ^= 0x81
			c := a
			c[i]++
			c[j]--
			if Same(a, b) || Same(a, c) {
				t.Errorf("the same though bytes %d and %d are unlike", j, i)
			}
		}
	}
	b := a
	b[0], b[31] = a[31], a[0]
	if a[0] == a[31] || Same(a, b) {
		t.Error("the same though two bytes are exchanged")
	}
}

// P1.4: zero bytes behind a key, up to 64 bytes in total, change nothing; a 65th byte does.
func TestMacZeroBytesBehindKey(t *testing.T) {
	b := pattern(70)
	for _, n := range []int{0, 1, 31, 32, 62, 63, 64} {
		key := pattern(n)
		want := Mac(key, b)
		for total := n; total <= 64; total++ {
			long := append(bytes.Clone(key), make([]byte, total-n)...)
			if got := Mac(long, b); got != want {
				t.Errorf("key of %d bytes and %d zero bytes: another tag", n, total-n)
			}
		}
		long := append(bytes.Clone(key), make([]byte, 65-n)...)
		if got := Mac(long, b); got == want || got != stdMac(long, b) {
			t.Errorf("key of %d bytes, with zero bytes up to 65: got %x", n, got)
		}
	}
}

// P1.4 is about zero bytes behind a key: ahead of it, and other bytes behind it, they make another key.
func TestMacOtherBytesMakeAnotherKey(t *testing.T) {
	b := pattern(3)
	for _, n := range []int{1, 31, 63} {
		key := pattern(n)
		ahead := append([]byte{0}, key...)
		behind := append(bytes.Clone(key), 1)
		if Mac(ahead, b) == Mac(key, b) || Mac(behind, b) == Mac(key, b) {
			t.Errorf("key of %d bytes: the same tag by another key", n)
		}
	}
}

// P1.4: a key of more than 64 bytes and its hash give the same tags; one of 64 bytes does not.
func TestMacLongKeyAndItsHash(t *testing.T) {
	for _, n := range []int{65, 66, 127, 128, 129, 1000} {
		key := pattern(n)
		short := Sum(key)
		for _, size := range edges {
			if b := pattern(size); Mac(key, b) != Mac(short[:], b) {
				t.Errorf("key of %d bytes, input of %d: another tag by its hash", n, size)
			}
		}
	}
	for _, n := range []int{0, 32, 63, 64} {
		key := pattern(n)
		short := Sum(key)
		if b := pattern(5); Mac(key, b) == Mac(short[:], b) {
			t.Errorf("key of %d bytes: hashed though it fits", n)
		}
	}
}

// R2: nil and empty slices are equivalent.
func TestNilAndEmpty(t *testing.T) {
	none, key := []byte{}, []byte("key")
	if Sum(nil) != Sum(none) {
		t.Error("Sum")
	}
	if Mac(nil, nil) != Mac(none, none) || Mac(nil, key) != Mac(none, key) || Mac(key, nil) != Mac(key, none) {
		t.Error("Mac")
	}
}

// R3: the slices handed in, and what lies behind them in the same memory, are not changed.
func TestArgumentsUnchanged(t *testing.T) {
	for _, k := range keyEdges {
		for _, n := range edges {
			keyRoom, room := pattern(k+100), pattern(n+100)
			key, b := keyRoom[:k], room[:n]
			Sum(b)
			Mac(key, b)
			if !bytes.Equal(keyRoom, pattern(k+100)) || !bytes.Equal(room, pattern(n+100)) {
				t.Fatalf("key of %d bytes, input of %d: changed", k, n)
			}
		}
	}
}

// R3: key and input may be the same memory.
func TestKeyAndInputShareMemory(t *testing.T) {
	room := pattern(200)
	for _, k := range keyEdges {
		if got, want := Mac(room[:k], room[k/2:]), stdMac(room[:k], room[k/2:]); got != want {
			t.Errorf("key of %d bytes: got %x, want %x", k, got, want)
		}
	}
}

// R4: a result depends on the arguments alone, whatever was called ahead.
func TestResultsRepeat(t *testing.T) {
	key, b := pattern(70), pattern(70)
	sum, tag := Sum(b), Mac(key, b)
	sum[0]++
	Sum(pattern(200))
	Mac(pattern(10), pattern(200))
	sum[0]--
	if Sum(b) != sum || Mac(key, b) != tag {
		t.Error("another result for the same arguments")
	}
}

// FuzzAgainstLibrary holds all calls against the library; its seeds run with the other tests (P0 among them: nothing panics).
func FuzzAgainstLibrary(f *testing.F) {
	for _, n := range edges {
		f.Add(pattern(n/2), pattern(n))
	}
	f.Fuzz(func(t *testing.T, key, b []byte) {
		if Sum(b) != sha256.Sum256(b) {
			t.Errorf("Sum of %x", b)
		}
		if Mac(key, b) != stdMac(key, b) {
			t.Errorf("Mac by %x of %x", key, b)
		}
		x, y := Sum(key), Sum(b)
		if Same(x, y) != (x == y) {
			t.Errorf("Same of %x and %x", x, y)
		}
	})
}
