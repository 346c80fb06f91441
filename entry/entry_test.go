package entry

import (
	"crypto/sha256"
	"encoding/binary"
	"encoding/hex"
	"fmt"
	"math"
	"math/rand"
	"slices"
	"sync"
	"testing"

	"garboard/api"
)

// The limit and the errors, by their numbers, so that no test leans on the constants.
const (
	most  = 1000000
	form  = api.Errno(2)
	seq   = api.Errno(6)
	chain = api.Errno(7)
)

func at(node, epoch, round int) api.Point {
	return api.Point{Node: node, T: api.Stamp{Epoch: epoch, Round: round}}
}

func within(n, least, greatest int) bool { return least <= n && n <= greatest }

// right is the word of chapter 9: a valid entry.
func right(e api.Entry) bool {
	return within(e.Kind, 1, 5) && within(e.Seq, 0, most) && within(e.Point.Node, 0, 7) &&
		within(e.Point.T.Epoch, 0, most) && within(e.Point.T.Round, 0, most) &&
		within(e.Edge, 0, 15) && within(e.Peer, 0, 6) && within(e.N, 1, most)
}

// text are the 63 bytes of P9.3, or none if the entry is not valid.
func text(e api.Entry) []byte {
	if !right(e) {
		return nil
	}
	number := func(b []byte, n int) []byte { return binary.BigEndian.AppendUint32(b, uint32(n)) }
	b := append(number([]byte{byte(e.Kind)}, e.Seq), e.Prev[:]...)
	b = number(number(append(b, byte(e.Point.Node)), e.Point.T.Epoch), e.Point.T.Round)
	b = number(append(b, byte(e.Edge), byte(e.Peer)), e.N)
	return append(b, make([]byte, 11)...)
}

// wantHead is Head by the words of P10.1, with the library's hash.
func wantHead(l []api.Entry) [32]byte {
	if len(l) == 0 {
		return [32]byte{}
	}
	return sha256.Sum256(text(l[len(l)-1]))
}

// wantCheck is Check by the words of P10.2.
func wantCheck(l []api.Entry) (api.Errno, int) {
	for i, e := range l {
		if !right(e) {
			return form, i
		}
		if e.Seq != i {
			return seq, i
		}
		if e.Prev != wantHead(l[:i]) {
			return chain, i
		}
	}
	return 0, -1
}

// wantNext is Next by the words of P10.3.
func wantNext(l []api.Entry, e api.Entry) (api.Entry, api.Errno) {
	e.Seq, e.Prev = len(l), wantHead(l)
	if !right(e) {
		return api.Entry{}, form
	}
	return e, 0
}

// kept is a list with room behind its end, where there are entries too, and what it was.
type kept struct{ list, whole, before []api.Entry }

// keep copies l ahead of entries that belong to someone else.
func keep(l []api.Entry) kept {
	whole := slices.Clone(l)
	for i := range 3 {
		whole = append(whole, api.Entry{Kind: 1, Seq: 700 + i, N: 5, Peer: 3})
	}
	return kept{whole[:len(l)], whole, slices.Clone(whole)}
}

// held says whether something has been modified, behind the end too.
func (k kept) held(t *testing.T, what string) {
	t.Helper()
	if !slices.Equal(k.whole, k.before) {
		t.Errorf("%s: the list was modified, or what is behind its end", what)
	}
}

// hold holds Head and Check of l against what they should be.
func hold(t *testing.T, what string, l []api.Entry) {
	t.Helper()
	k := keep(l)
	if got, want := Head(k.list), wantHead(l); got != want {
		t.Errorf("%s: Head: got %x, want %x", what, got, want)
	}
	want, place := wantCheck(l)
	if err, i := Check(k.list); err != want || i != place {
		t.Errorf("%s: Check: got %d, %d, want %d, %d", what, err, i, want, place)
	}
	k.held(t, what)
}

// holdFault holds Check of l against an error and an index, beside what the words say.
func holdFault(t *testing.T, what string, l []api.Entry, want api.Errno, place int) {
	t.Helper()
	hold(t, what, l)
	if err, i := Check(l); err != want || i != place {
		t.Errorf("%s: Check: got %d, %d, want %d, %d", what, err, i, want, place)
	}
}

// holdNext holds Next against what it should be. It returns what Next did.
func holdNext(t *testing.T, what string, l []api.Entry, e api.Entry) (api.Entry, api.Errno) {
	t.Helper()
	k := keep(l)
	got, err := Next(k.list, e)
	if want, wantErr := wantNext(l, e); got != want || err != wantErr {
		t.Errorf("%s: Next: got %#v, %d, want %#v, %d", what, got, err, want, wantErr)
	}
	k.held(t, what)
	return got, err
}

// anEntry is valid but for its Seq and Prev, and for each i another one.
func anEntry(i int) api.Entry {
	return api.Entry{Kind: 1 + i%5, Point: at(i%8, i%100, i*7%1000), Edge: i % 16, Peer: i % 7, N: 1 + i%1000}
}

// chained is a ledger of n entries, without Next.
func chained(n int) []api.Entry {
	var l []api.Entry
	for i := range n {
		e := anEntry(i)
		e.Seq, e.Prev = i, wantHead(l)
		l = append(l, e)
	}
	return l
}

// rechained are the entries of l, each with the number and the hash that belong at its place.
func rechained(l []api.Entry) []api.Entry {
	var all []api.Entry
	for i, e := range l {
		e.Seq, e.Prev = i, wantHead(all)
		all = append(all, e)
	}
	return all
}

// change is what is done to one entry, and its name.
type change struct {
	name string
	do   func(e *api.Entry)
}

// invalid are changes that make any entry one that is not valid, each in one field alone, but not in Seq.
func invalid() []change {
	return []change{
		{"Kind 0", func(e *api.Entry) { e.Kind = 0 }},
		{"Kind 6", func(e *api.Entry) { e.Kind = 6 }},
		{"Kind -1", func(e *api.Entry) { e.Kind = -1 }},
		{"Kind 256 more", func(e *api.Entry) { e.Kind += 256 }},
		{"Node -1", func(e *api.Entry) { e.Point.Node = -1 }},
		{"Node 8", func(e *api.Entry) { e.Point.Node = 8 }},
		{"Node 256 more", func(e *api.Entry) { e.Point.Node += 256 }},
		{"Epoch -1", func(e *api.Entry) { e.Point.T.Epoch = -1 }},
		{"Epoch 1000001", func(e *api.Entry) { e.Point.T.Epoch = most + 1 }},
		{"Epoch 2^32 more", func(e *api.Entry) { e.Point.T.Epoch += 1 << 32 }},
		{"Round -1", func(e *api.Entry) { e.Point.T.Round = -1 }},
		{"Round 1000001", func(e *api.Entry) { e.Point.T.Round = most + 1 }},
		{"Round 2^32 less", func(e *api.Entry) { e.Point.T.Round -= 1 << 32 }},
		{"Edge -1", func(e *api.Entry) { e.Edge = -1 }},
		{"Edge 16", func(e *api.Entry) { e.Edge = 16 }},
		{"Edge 256 more", func(e *api.Entry) { e.Edge += 256 }},
		{"Peer -1", func(e *api.Entry) { e.Peer = -1 }},
		{"Peer 7", func(e *api.Entry) { e.Peer = 7 }},
		{"Peer 256 more", func(e *api.Entry) { e.Peer += 256 }},
		{"N 0", func(e *api.Entry) { e.N = 0 }},
		{"N -1", func(e *api.Entry) { e.N = -1 }},
		{"N 1000001", func(e *api.Entry) { e.N = most + 1 }},
		{"N 2^32 more", func(e *api.Entry) { e.N += 1 << 32 }},
		{"N least of all", func(e *api.Entry) { e.N = math.MinInt }},
		{"N greatest of all", func(e *api.Entry) { e.N = math.MaxInt }},
	}
}

// others are changes that make a valid entry another valid one, but not in Seq and Prev.
func others() []change {
	return []change{
		{"N", func(e *api.Entry) { e.N = 1 + e.N%most }},
		{"N by 2^16", func(e *api.Entry) { e.N = 1 + (e.N+1<<16-1)%most }},
		{"Kind", func(e *api.Entry) { e.Kind = 1 + e.Kind%5 }},
		{"Node", func(e *api.Entry) { e.Point.Node = (e.Point.Node + 1) % 8 }},
		{"Epoch", func(e *api.Entry) { e.Point.T.Epoch = (e.Point.T.Epoch + 1) % (most + 1) }},
		{"Epoch by 2^8", func(e *api.Entry) { e.Point.T.Epoch = (e.Point.T.Epoch + 1<<8) % (most + 1) }},
		{"Round", func(e *api.Entry) { e.Point.T.Round = (e.Point.T.Round + 1) % (most + 1) }},
		{"Round by 2^16", func(e *api.Entry) { e.Point.T.Round = (e.Point.T.Round + 1<<16) % (most + 1) }},
		{"Edge", func(e *api.Entry) { e.Edge = (e.Edge + 1) % 16 }},
		{"Peer", func(e *api.Entry) { e.Peer = (e.Peer + 1) % 7 }},
	}
}

// changed is a copy of l whose entry i is changed.
func changed(l []api.Entry, i int, do func(e *api.Entry)) []api.Entry {
	l = slices.Clone(l)
	do(&l[i])
	return l
}

func bytesOf(t *testing.T, digits string) [32]byte {
	t.Helper()
	b, err := hex.DecodeString(digits)
	if err != nil || len(b) != 32 {
		t.Fatalf("%q is no hash", digits)
	}
	return [32]byte(b)
}

// Hashes from another program: of the entry of kind 5, N 1 and else zeros; of the one
// behind it that secondEntry is; and of the empty string.
const (
	firstHash  = "c57ec3996fc89ee618b31a7fbc52877f6a2bf218713f4156c763282efcb03417"
	secondHash = "421ecccc4638106c65e2c0cb0ffe9004e4d63562e270a7c124809770d8f2f9a6"
	emptyHash  = "e3b0c44298fc1c149afbf4c8996fb92427ae41e4649b934ca495991b7852b855"
)

func firstEntry() api.Entry { return api.Entry{Kind: 5, N: 1} }

func secondEntry(t *testing.T) api.Entry {
	return api.Entry{Kind: 3, Seq: 1, Prev: bytesOf(t, firstHash), Point: at(7, 0x010203, 0x040506), Edge: 15, Peer: 6, N: 0x070809}
}

// TestExamples: the chapter's examples.
func TestExamples(t *testing.T) {
	first, err := Next(nil, api.Entry{Kind: 5, N: 1, Seq: 4, Prev: [32]byte{1}})
	if err != 0 || first != firstEntry() {
		t.Fatalf("the first entry: %#v, %d", first, err)
	}
	if first.Seq != 0 || first.Prev != [32]byte{} {
		t.Errorf("the first entry has Seq %d and Prev %x, not 0 and zeros", first.Seq, first.Prev)
	}
	second, err := Next([]api.Entry{first}, api.Entry{Kind: 3, Point: at(7, 0x010203, 0x040506), Edge: 15, Peer: 6, N: 0x070809})
	if err != 0 || second != secondEntry(t) {
		t.Fatalf("the second entry: %#v, %d", second, err)
	}
	l := []api.Entry{first, second}
	if err, i := Check(l); err != 0 || i != -1 {
		t.Errorf("both of them: got %d, %d", err, i)
	}
	l[0].N = 2
	if err, i := Check(l); err != chain || i != 1 {
		t.Errorf("with another N of the first entry: got %d, %d, want 7, 1", err, i)
	}
}

// TestHead: P10.1: zeros of no entries, else the hash of the last one's text, or of the
// empty string if it is not valid.
func TestHead(t *testing.T) {
	second := secondEntry(t)
	broken := second
	broken.N = 0
	for _, c := range []struct {
		name string
		l    []api.Entry
		want [32]byte
	}{
		{"nil", nil, [32]byte{}},
		{"an empty list", []api.Entry{}, [32]byte{}},
		{"an empty list with room", []api.Entry{second}[:0], [32]byte{}},
		{"one entry", []api.Entry{firstEntry()}, bytesOf(t, firstHash)},
		{"two entries", []api.Entry{firstEntry(), second}, bytesOf(t, secondHash)},
		{"the second alone, which is no ledger", []api.Entry{second}, bytesOf(t, secondHash)},
		{"twice the second", []api.Entry{second, second}, bytesOf(t, secondHash)},
		{"the first behind the second", []api.Entry{second, firstEntry()}, bytesOf(t, firstHash)},
		{"behind a zero entry", []api.Entry{{}, second}, bytesOf(t, secondHash)},
		{"behind several that are not valid", []api.Entry{{}, broken, {Kind: -1}, firstEntry()}, bytesOf(t, firstHash)},
		{"a zero entry", []api.Entry{{}}, bytesOf(t, emptyHash)},
		{"a zero entry behind valid ones", []api.Entry{firstEntry(), second, {}}, bytesOf(t, emptyHash)},
		{"one that is not valid in N", []api.Entry{firstEntry(), broken}, bytesOf(t, emptyHash)},
	} {
		hold(t, c.name, c.l)
		if got := Head(c.l); got != c.want {
			t.Errorf("%s: got %x, want %x", c.name, got, c.want)
		}
	}
}

// TestHeadOfEachField: P10.1: the hash is of all fields of the last entry, and of no other entry.
func TestHeadOfEachField(t *testing.T) {
	l := chained(4)
	head := Head(l)
	all := append(others(), change{"Seq", func(e *api.Entry) { e.Seq++ }}, change{"Seq by 2^16", func(e *api.Entry) { e.Seq += 1 << 16 }})
	for i := range 32 {
		all = append(all, change{fmt.Sprint("Prev, byte ", i), func(e *api.Entry) { e.Prev[i] ^= 0x80 }})
	}
	for _, c := range all {
		last := changed(l, 3, c.do)
		hold(t, "the last one's "+c.name, last)
		if Head(last) == head {
			t.Errorf("another %s of the last entry: the same Head", c.name)
		}
		for i := range 3 {
			if Head(changed(l, i, c.do)) != head {
				t.Errorf("another %s of entry %d of 4: another Head", c.name, i)
			}
		}
	}
	for _, c := range invalid() {
		last := changed(l, 3, c.do)
		hold(t, "the last one not valid: "+c.name, last)
		if Head(last) != bytesOf(t, emptyHash) {
			t.Errorf("%s: Head is not the hash of the empty string", c.name)
		}
		if Head(changed(l, 2, c.do)) != head {
			t.Errorf("%s of the entry before the last: another Head", c.name)
		}
	}
}

// TestCheckLedgers: P10.2: OK and -1 of no entries, and of ledgers.
func TestCheckLedgers(t *testing.T) {
	holdFault(t, "nil", nil, 0, -1)
	holdFault(t, "an empty list", []api.Entry{}, 0, -1)
	holdFault(t, "an empty list with room", []api.Entry{{}, {}}[:0], 0, -1)
	for n := range 40 {
		holdFault(t, fmt.Sprint(n, " entries"), chained(n), 0, -1)
	}
}

// TestCheckForm: P10.2: ErrForm and its index, where one entry is not valid in one field
// alone; with the entries behind it chained to what is there, too.
func TestCheckForm(t *testing.T) {
	for n := 1; n <= 5; n++ {
		l := chained(n)
		for i := range n {
			for _, c := range invalid() {
				what := fmt.Sprintf("entry %d of %d: %s", i, n, c.name)
				holdFault(t, what, changed(l, i, c.do), form, i)
				holdFault(t, what+", chained", rechained(changed(l, i, c.do)), form, i)
			}
			for _, s := range []int{-1, -2, most + 1, i + 1<<32, i - 1<<32, math.MinInt, math.MaxInt} {
				holdFault(t, fmt.Sprintf("entry %d of %d: Seq %d", i, n, s), changed(l, i, func(e *api.Entry) { e.Seq = s }), form, i)
			}
		}
	}
}

// TestCheckSeq: P10.2: ErrSeq and its index, where a number is another one that is valid.
func TestCheckSeq(t *testing.T) {
	for n := 1; n <= 5; n++ {
		l := chained(n)
		for i := range n {
			for _, s := range []int{i - 1, i + 1, i + 2, i + 256, i + 65536, n, 0, most} {
				if s == i || s < 0 {
					continue
				}
				what := fmt.Sprintf("entry %d of %d: Seq %d", i, n, s)
				holdFault(t, what, changed(l, i, func(e *api.Entry) { e.Seq = s }), seq, i)
			}
		}
	}
	// A number that is one less than the first one's index is not valid.
	holdFault(t, "the first entry's Seq -1", changed(chained(3), 0, func(e *api.Entry) { e.Seq-- }), form, 0)
}

// TestCheckChain: P10.2: ErrChain and its index, where one byte of Prev is another one,
// or all of it.
func TestCheckChain(t *testing.T) {
	for n := 1; n <= 5; n++ {
		l := chained(n)
		for i := range n {
			for b := range 32 {
				for _, bit := range []byte{0x01, 0x10, 0x80, 0xFF} {
					what := fmt.Sprintf("entry %d of %d: byte %d of Prev by %#x", i, n, b, bit)
					holdFault(t, what, changed(l, i, func(e *api.Entry) { e.Prev[b] ^= bit }), chain, i)
				}
			}
			for j := range n + 1 {
				if j != i {
					what := fmt.Sprintf("entry %d of %d: Prev is Head of the first %d", i, n, j)
					holdFault(t, what, changed(l, i, func(e *api.Entry) { e.Prev = wantHead(l[:j]) }), chain, i)
				}
			}
		}
		empty := bytesOf(t, emptyHash)
		holdFault(t, "the first entry's Prev is the hash of the empty string", changed(l, 0, func(e *api.Entry) { e.Prev = empty }), chain, 0)
	}
}

// TestCheckSeveralOfOne: P10.2: where two or all three hold of an entry, it is the first of
// ErrForm, ErrSeq, ErrChain.
func TestCheckSeveralOfOne(t *testing.T) {
	for n := 1; n <= 4; n++ {
		l := chained(n)
		for i := range n {
			for faults := 1; faults < 8; faults++ {
				want := chain
				bad := changed(l, i, func(e *api.Entry) {
					if faults&1 != 0 {
						e.Prev[9]++
					}
					if faults&2 != 0 {
						e.Seq += 3
						want = seq
					}
					if faults&4 != 0 {
						e.Peer = 7
						want = form
					}
				})
				holdFault(t, fmt.Sprintf("entry %d of %d with faults %03b", i, n, faults), bad, want, i)
			}
		}
	}
}

// TestCheckSeveralEntries: P10.2: where several entries have faults, it is the first of
// them, whatever the faults are.
func TestCheckSeveralEntries(t *testing.T) {
	l := chained(6)
	faults := []struct {
		err api.Errno
		do  func(e *api.Entry)
	}{
		{form, func(e *api.Entry) { e.Kind = 0 }},
		{seq, func(e *api.Entry) { e.Seq += 10 }},
		{chain, func(e *api.Entry) { e.Prev[31]++ }},
	}
	for i := range l {
		for j := i + 1; j < len(l); j++ {
			for a, first := range faults {
				for b, second := range faults {
					bad := changed(changed(l, i, first.do), j, second.do)
					holdFault(t, fmt.Sprintf("fault %d of entry %d and %d of entry %d", a, i, b, j), bad, first.err, i)
				}
			}
		}
	}
	for _, f := range faults {
		all := slices.Clone(l)
		for i := range all {
			f.do(&all[i])
		}
		holdFault(t, fmt.Sprint("all entries with fault ", f.err), all, f.err, 0)
	}
}

// TestCheckOrder: P10.2: entries exchanged, left out, that stand twice, or that are of another ledger.
func TestCheckOrder(t *testing.T) {
	l := chained(6)
	for i := range l {
		for j := range i {
			bad := slices.Clone(l)
			bad[i], bad[j] = bad[j], bad[i]
			holdFault(t, fmt.Sprintf("entries %d and %d exchanged", j, i), bad, seq, j)
			bad[i].Seq, bad[j].Seq = i, j
			holdFault(t, fmt.Sprintf("entries %d and %d exchanged but for Seq", j, i), bad, chain, j)
		}
		left := slices.Delete(slices.Clone(l), i, i+1)
		if i < len(l)-1 {
			holdFault(t, fmt.Sprint("left out ", i), left, seq, i)
			for j := range left {
				left[j].Seq = j
			}
			holdFault(t, fmt.Sprint("left out, and numbered anew, ", i), left, chain, i)
		} else {
			holdFault(t, "left out the last", left, 0, -1)
		}
		holdFault(t, fmt.Sprint("twice ", i), slices.Insert(slices.Clone(l), i, l[i]), seq, i+1)
		holdFault(t, fmt.Sprint("again at the end ", i), append(slices.Clone(l), l[i]), seq, 6)
	}
	other := rechained(l[1:])
	for i := 1; i < len(other); i++ {
		holdFault(t, fmt.Sprint("behind the first ones of another ledger: ", i), slices.Concat(l[:i], other[i:]), chain, i)
	}
}

// TestNext: P10.3: the number and the hash are filled in, whatever they were; all else stays.
func TestNext(t *testing.T) {
	for n := range 6 {
		l := chained(n)
		for _, s := range []int{0, 1, n - 1, n, n + 1, -1, most, most + 1, math.MinInt, math.MaxInt} {
			for i := range 20 {
				e := anEntry(i)
				e.Seq = s
				e.Prev[i] = 0xFF
				what := fmt.Sprintf("entry %d with Seq %d behind %d", i, s, n)
				got, err := holdNext(t, what, l, e)
				plain := anEntry(i)
				plain.Seq, plain.Prev = n, wantHead(l)
				if err != 0 || got != plain {
					t.Errorf("%s: got %#v, %d, want %#v", what, got, err, plain)
				}
			}
		}
	}
	for _, empty := range [][]api.Entry{nil, {}, chained(2)[:0]} {
		if got, err := holdNext(t, "behind nothing", empty, anEntry(3)); err != 0 || got != anEntry(3) {
			t.Errorf("behind nothing: %#v, %d", got, err)
		}
	}
}

// TestNextForm: P10.3: the zero entry and ErrForm if the result is not valid, whatever Seq and Prev were.
func TestNextForm(t *testing.T) {
	for n := range 5 {
		l := chained(n)
		for _, c := range invalid() {
			for _, s := range []int{0, n, -1, most + 1} {
				e := anEntry(n)
				e.Seq, e.Prev = s, wantHead(l)
				c.do(&e)
				what := fmt.Sprintf("%s with Seq %d behind %d", c.name, s, n)
				if got, err := holdNext(t, what, l, e); err != form || got != (api.Entry{}) {
					t.Errorf("%s: got %#v, %d, want the zero entry, 2", what, got, err)
				}
			}
		}
		if got, err := holdNext(t, "the zero entry", l, api.Entry{}); err != form || got != (api.Entry{}) {
			t.Errorf("the zero entry behind %d: %#v, %d", n, got, err)
		}
	}
}

// TestNextOfNoLedger: P10.3: behind a list that is no ledger it is its length and its Head, too.
func TestNextOfNoLedger(t *testing.T) {
	l := chained(3)
	wrong := func(e *api.Entry) { e.Prev[0]++ }
	far := func(e *api.Entry) { e.Seq = 77 }
	broken := func(e *api.Entry) { e.N = 0 }
	for i := range l {
		for j, do := range []func(e *api.Entry){wrong, far, broken} {
			bad := changed(l, i, do)
			got, err := holdNext(t, fmt.Sprintf("fault %d at %d", j, i), bad, anEntry(9))
			if err != 0 || got.Seq != 3 || got.Prev != Head(bad) {
				t.Errorf("fault %d at %d: got %#v, %d", j, i, got, err)
			}
		}
	}
	got, err := holdNext(t, "behind a zero entry", []api.Entry{{}}, anEntry(9))
	if err != 0 || got.Seq != 1 || got.Prev != bytesOf(t, emptyHash) {
		t.Errorf("behind a zero entry: got %#v, %d", got, err)
	}
	got, err = holdNext(t, "behind twice the same", []api.Entry{l[0], l[0]}, anEntry(9))
	if err != 0 || got.Seq != 2 || got.Prev != wantHead(l[:1]) {
		t.Errorf("behind twice the same: got %#v, %d", got, err)
	}
}

// grown is a ledger of n entries by Next alone.
func grown(t *testing.T, n int, entryOf func(i int) api.Entry) []api.Entry {
	t.Helper()
	var l []api.Entry
	for i := range n {
		e, err := Next(l, entryOf(i))
		if err != 0 {
			t.Fatalf("entry %d: %d", i, err)
		}
		l = append(l, e)
	}
	return l
}

// TestGrown: P10.4: what is built by Next alone is a ledger, and each prefix of it.
func TestGrown(t *testing.T) {
	random := rand.New(rand.NewSource(1))
	for range 20 {
		l := grown(t, 1+random.Intn(25), func(int) api.Entry { return randomEntry(random) })
		for i := range len(l) + 1 {
			holdFault(t, fmt.Sprintf("the first %d of %d", i, len(l)), l[:i], 0, -1)
		}
		for i, e := range l {
			if e.Seq != i || e.Prev != Head(l[:i]) {
				t.Errorf("entry %d of %d: %#v", i, len(l), e)
			}
		}
	}
}

// randomEntry is a valid one but for its Seq and Prev, which are anything.
func randomEntry(random *rand.Rand) api.Entry {
	e := api.Entry{Kind: 1 + random.Intn(5), Point: at(random.Intn(8), random.Intn(most+1), random.Intn(most+1))}
	e.Edge, e.Peer, e.N = random.Intn(16), random.Intn(7), 1+random.Intn(most)
	e.Seq = random.Intn(100) - 50
	random.Read(e.Prev[:])
	return e
}

// TestGrownAndChanged: P10.4 with P10.2: another field of an entry that is not the last
// is the next one's ErrChain; of the last one nothing is left to tell it by.
func TestGrownAndChanged(t *testing.T) {
	for n := 1; n <= 6; n++ {
		l := grown(t, n, anEntry)
		for i := range n {
			for _, c := range others() {
				what := fmt.Sprintf("another %s of entry %d of %d", c.name, i, n)
				bad := changed(l, i, c.do)
				if bad[i] == l[i] || !right(bad[i]) {
					t.Fatalf("%s: the change is none", what)
				}
				if i == n-1 {
					holdFault(t, what, bad, 0, -1)
				} else {
					holdFault(t, what, bad, chain, i+1)
				}
			}
		}
	}
}

// TestFirstOfEachField: P10.2 with P10.1: each field is told by its own bytes: two first
// entries that differ in one field do not stand for each other.
func TestFirstOfEachField(t *testing.T) {
	all := []api.Entry{firstEntry()}
	for _, c := range others() {
		all = append(all, changed(all, 0, c.do)[0])
	}
	for i, a := range all {
		second, err := Next([]api.Entry{a}, anEntry(5))
		if err != 0 {
			t.Fatalf("behind entry %d: %d", i, err)
		}
		for j, b := range all {
			if a == b {
				continue
			}
			if err, place := Check([]api.Entry{b, second}); err != chain || place != 1 {
				t.Errorf("entry %d ahead of what stands behind entry %d: %d, %d", j, i, err, place)
			}
		}
	}
}

// TestSmallLists: P10.1 to P10.4: all lists of up to three entries out of a few, among
// them such as fit behind one another and such as almost do.
func TestSmallLists(t *testing.T) {
	pool := smallPool()
	var lists [][]api.Entry
	for i := range pool {
		lists = append(lists, pool[i:i+1])
		for j := range pool {
			lists = append(lists, []api.Entry{pool[i], pool[j]})
			for k := range pool {
				lists = append(lists, []api.Entry{pool[i], pool[j], pool[k]})
			}
		}
	}
	ledgers, lengths := 0, map[api.Entry]int{}
	for i, l := range lists {
		hold(t, fmt.Sprint("list ", i), l)
		next, err := holdNext(t, fmt.Sprint("list ", i), l, pool[i%len(pool)])
		if fault, _ := Check(l); fault != 0 {
			continue
		}
		ledgers++
		last := l[len(l)-1]
		if n := lengths[last]; n != 0 && n != len(l) {
			t.Errorf("list %d: ledgers of %d and %d entries end with %#v", i, n, len(l), last)
		}
		lengths[last] = len(l)
		for j := range l {
			holdFault(t, fmt.Sprintf("the first %d of list %d", j, i), l[:j], 0, -1)
		}
		if err == 0 {
			holdFault(t, fmt.Sprintf("list %d with its next", i), append(slices.Clone(l), next), 0, -1)
		}
	}
	// What starts with the first entry of a, of b or of c, and goes on as they do.
	if ledgers != 7 {
		t.Errorf("%d of %d lists are ledgers, not 7", ledgers, len(lists))
	}
}

// smallPool are a few entries: two ledgers of three that have their first entry in common, one
// whose first one differs, and faulty ones of theirs.
func smallPool() []api.Entry {
	a := chained(3)
	b := rechained([]api.Entry{a[0], anEntry(7), anEntry(2)})
	c := rechained([]api.Entry{anEntry(4), anEntry(1)})
	faulty := changed(a, 1, func(e *api.Entry) { e.N = 0 })[1]
	empty := anEntry(1)
	empty.Seq, empty.Prev = 1, wantHead([]api.Entry{{}})
	late := a[1]
	late.Seq = 2
	wrong := a[2]
	wrong.Prev[16] ^= 4
	return append(slices.Concat(a, b[1:], c), faulty, empty, late, wrong, api.Entry{}, api.Entry{Kind: 1, Seq: -1, N: 1})
}

// spoilt is l with a few things done to it by chance.
func spoilt(random *rand.Rand, l []api.Entry) []api.Entry {
	l = slices.Clone(l)
	for range random.Intn(3) {
		if len(l) == 0 {
			return l
		}
		i, j := random.Intn(len(l)), random.Intn(len(l))
		all := append(invalid(), others()...)
		switch random.Intn(8) {
		case 0:
			l[i], l[j] = l[j], l[i]
		case 1:
			l = slices.Delete(l, i, i+1)
		case 2:
			l = slices.Insert(l, i, l[j])
		case 3:
			l[i].Seq += random.Intn(5) - 2
		case 4:
			l[i].Prev[random.Intn(32)] ^= 1 << random.Intn(8)
		case 5:
			l = rechained(l)
		case 6:
			l = l[i:]
		default:
			all[random.Intn(len(all))].do(&l[i])
		}
	}
	return l
}

// TestByChance: P10.1 to P10.4 of lists that are ledgers, or were almost.
func TestByChance(t *testing.T) {
	random := rand.New(rand.NewSource(2))
	faults := map[api.Errno]int{}
	lengths := map[api.Entry]int{}
	for i := range 4000 {
		l := chained(random.Intn(12))
		if random.Intn(2) == 0 {
			l = grown(t, random.Intn(12), func(int) api.Entry { return randomEntry(random) })
		}
		l = spoilt(random, l)
		what := fmt.Sprint("list ", i)
		hold(t, what, l)
		e := randomEntry(random)
		if all := invalid(); random.Intn(4) == 0 {
			all[random.Intn(len(all))].do(&e)
		}
		next, nextErr := holdNext(t, what, l, e)
		err, _ := Check(l)
		faults[err]++
		if err != 0 || nextErr != 0 {
			continue
		}
		longer := append(slices.Clone(l), next)
		holdFault(t, what+" with its next", longer, 0, -1)
		for n := 1; n <= len(longer); n++ {
			if known := lengths[longer[n-1]]; known != 0 && known != n {
				t.Errorf("%s: ledgers of %d and %d entries have the same last one", what, known, n)
			}
			lengths[longer[n-1]] = n
		}
	}
	for _, err := range []api.Errno{0, form, seq, chain} {
		if faults[err] < 100 {
			t.Errorf("only %d lists of 4000 have %d", faults[err], err)
		}
	}
}

// TestLength: P10.4: two ledgers with the same last entry have the same length: what
// ends with an entry is a ledger at its own place alone.
func TestLength(t *testing.T) {
	l := grown(t, 8, anEntry)
	for i, last := range l {
		for n := range 12 {
			ahead := chained(n)
			if n == i {
				ahead = l[:i]
			}
			err, place := Check(append(slices.Clone(ahead), last))
			if n == i && (err != 0 || place != -1) {
				t.Errorf("entry %d behind those that it had ahead: %d, %d", i, err, place)
			}
			if n != i && (err != seq || place != n) {
				t.Errorf("entry %d behind %d others: %d, %d, want 6, %d", i, n, err, place, n)
			}
		}
	}
}

// TestGreatestSeq: P10.2 and P10.3 where the numbers come to an end: a ledger has at most 1000001 entries.
func TestGreatestSeq(t *testing.T) {
	l := make([]api.Entry, most+2)
	for i := range l {
		e := anEntry(i)
		e.Seq, e.Prev = i, wantHead(l[:i])
		l[i] = e
	}
	if err, i := Check(l[:most+1]); err != 0 || i != -1 {
		t.Errorf("1000001 entries: got %d, %d", err, i)
	}
	if err, i := Check(l); err != form || i != most+1 {
		t.Errorf("1000002 entries: got %d, %d, want 2, 1000001", err, i)
	}
	for _, n := range []int{most - 1, most, most + 1, most + 2} {
		got, err := Next(l[:n], anEntry(3))
		if want, wantErr := wantNext(l[:n], anEntry(3)); got != want || err != wantErr {
			t.Errorf("behind %d: got %#v, %d, want %#v, %d", n, got, err, want, wantErr)
		}
	}
	if _, err := Next(l[:most], anEntry(3)); err != 0 {
		t.Errorf("the greatest number is refused: %d", err)
	}
	if got, err := Next(l[:most+1], anEntry(3)); err != form || got != (api.Entry{}) {
		t.Errorf("one more than the greatest number: got %#v, %d", got, err)
	}
}

// TestResultsApart: R3: what Next returned stands for itself, and the list that it was made of may change.
func TestResultsApart(t *testing.T) {
	l := make([]api.Entry, 2, 10)
	copy(l, chained(2))
	e := anEntry(2)
	got, err := Next(l, e)
	before := got
	head := Head(l)
	l[1].N++
	e.N++
	l[0] = api.Entry{}
	if err != 0 || got != before {
		t.Errorf("what Next returned changed with its arguments: %#v, %#v", got, before)
	}
	if head == Head(l) || head != got.Prev {
		t.Errorf("Head of another list: %x, %x", head, Head(l))
	}
	if room := l[:10]; slices.ContainsFunc(room[2:], func(e api.Entry) bool { return e != (api.Entry{}) }) {
		t.Errorf("something was written behind the end: %#v", room[2:])
	}
}

// TestAgain: R4: the same again, whatever was asked in between.
func TestAgain(t *testing.T) {
	l := chained(9)
	bad := changed(l, 4, func(e *api.Entry) { e.Edge = 16 })
	head, badHead := Head(l), Head(bad[:5])
	next, _ := Next(l, anEntry(1))
	for range 50 {
		if Head(l) != head || Head(bad[:5]) != badHead || Head(nil) != [32]byte{} {
			t.Fatal("Head changed")
		}
		if err, i := Check(l); err != 0 || i != -1 {
			t.Fatalf("Check changed: %d, %d", err, i)
		}
		if err, i := Check(bad); err != form || i != 4 {
			t.Fatalf("Check of a bad list changed: %d, %d", err, i)
		}
		if got, err := Next(l, anEntry(1)); err != 0 || got != next {
			t.Fatalf("Next changed: %#v, %d", got, err)
		}
		if got, err := Next(bad, api.Entry{}); err != form || got != (api.Entry{}) {
			t.Fatalf("Next of a bad entry changed: %#v, %d", got, err)
		}
	}
}

// TestTogether: R4: calls at the same time, on the same list, do not touch each other.
func TestTogether(t *testing.T) {
	l := chained(20)
	var all sync.WaitGroup
	for i := range 8 {
		all.Go(func() {
			for n := range len(l) + 1 {
				if err, place := Check(l[:n]); err != 0 || place != -1 || Head(l[:n]) != wantHead(l[:n]) {
					t.Errorf("goroutine %d: the first %d: %d, %d", i, n, err, place)
				}
				got, err := Next(l[:n], anEntry(n))
				if want, wantErr := wantNext(l[:n], anEntry(n)); got != want || err != wantErr {
					t.Errorf("goroutine %d: behind the first %d: %#v, %d", i, n, got, err)
				}
			}
		})
	}
	all.Wait()
}

// FuzzEntries: P0 and P10.1 to P10.4 of entries that bytes tell, each by a row of ten numbers.
func FuzzEntries(f *testing.F) {
	f.Add([]byte{}, false)
	f.Add([]byte("\x00\x01\x00\x00\x00\x00\x00\x00\x01\x00"), true)
	f.Add([]byte("\x00\x05\x01\x02\x03\x04\x05\x00\x01\x00\x01\x02\x01\x02\x03\x04\x05\x01\x01\x00"), true)
	f.Add([]byte("\x00\x05\x01\x02\x03\x04\x05\x00\x01\x00\x01\x02\x01\x02\x03\x04\x05\x01\x01\x07\x02\x06\x01\x02\x03\x04\x05\x02\x01\x00"), false)
	f.Fuzz(func(t *testing.T, told []byte, join bool) {
		var l []api.Entry
		for row := range slices.Chunk(told, 10) {
			if len(row) < 10 {
				break
			}
			n := func(i int) int { return int(int8(row[i])) }
			e := api.Entry{Kind: n(1), Seq: n(0), Point: at(n(2), n(3), n(4)*8000), Edge: n(5), Peer: n(6), N: n(7)<<16 + n(8)}
			if join {
				e.Prev = wantHead(l)
			}
			e.Prev[5] ^= row[9]
			l = append(l, e)
		}
		hold(t, "the list", l)
		for _, e := range append(slices.Clone(l), anEntry(len(l))) {
			next, err := holdNext(t, "the list", l, e)
			if fault, _ := Check(l); fault == 0 && err == 0 {
				holdFault(t, "with its next", append(slices.Clone(l), next), 0, -1)
			}
		}
	})
}
