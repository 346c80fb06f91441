package anti

import (
	"math"
	"math/rand"
	"slices"
	"testing"

	"garboard/api"
)

// ends are parts that are valid, that just aren't, and the type's own ends.
var ends = []int{math.MinInt, math.MinInt + 1, -1000001, -1, 0, 1, 999999, 1000000, 1000001, math.MaxInt - 1, math.MaxInt}

func at(epoch, round int) api.Stamp { return api.Stamp{Epoch: epoch, Round: round} }

// lessEq and ahead are the orders in the document's words, so that no test leans on package stamp.
func lessEq(a, b api.Stamp) bool { return a.Epoch <= b.Epoch && a.Round <= b.Round }

func ahead(a, b api.Stamp) bool {
	return a.Epoch < b.Epoch || a.Epoch == b.Epoch && a.Round < b.Round
}

// wantRow puts each timestamp at its place, one by one.
func wantRow(l []api.Stamp) []api.Stamp {
	var row []api.Stamp
	for _, t := range l {
		i := 0
		for i < len(row) && ahead(row[i], t) {
			i++
		}
		if i == len(row) || row[i] != t {
			row = slices.Insert(row, i, t)
		}
	}
	return row
}

// wantMin holds each timestamp against all others.
func wantMin(l []api.Stamp) []api.Stamp {
	return wantRow(slices.DeleteFunc(slices.Clone(l), func(t api.Stamp) bool {
		return slices.ContainsFunc(l, func(s api.Stamp) bool { return s != t && lessEq(s, t) })
	}))
}

func wantCovers(l []api.Stamp, t api.Stamp) bool {
	return slices.ContainsFunc(l, func(s api.Stamp) bool { return lessEq(s, t) })
}

func wantBeyond(a, b []api.Stamp) bool {
	return !slices.ContainsFunc(a, func(t api.Stamp) bool { return !wantCovers(b, t) })
}

// checkLists holds Row and Min of l against the words of P3.1.
func checkLists(t *testing.T, l []api.Stamp) {
	t.Helper()
	if got, want := Row(l), wantRow(l); !slices.Equal(got, want) {
		t.Errorf("Row(%v): got %v, want %v", l, got, want)
	}
	if got, want := Min(l), wantMin(l); !slices.Equal(got, want) {
		t.Errorf("Min(%v): got %v, want %v", l, got, want)
	}
}

// checkBeyond holds Beyond of a and b against the words of P3.2.
func checkBeyond(t *testing.T, a, b []api.Stamp) {
	t.Helper()
	if got, want := Beyond(a, b), wantBeyond(a, b); got != want {
		t.Errorf("Beyond(%v, %v): got %v", a, b, got)
	}
}

// stampsOf are all timestamps with these parts, in increasing order if the parts are.
func stampsOf(parts []int) []api.Stamp {
	var list []api.Stamp
	for _, e := range parts {
		for _, r := range parts {
			list = append(list, at(e, r))
		}
	}
	return list
}

// listsOf are all lists of at most most timestamps, repeated ones and all orders among them.
func listsOf(stamps []api.Stamp, most int) [][]api.Stamp {
	lists := [][]api.Stamp{nil}
	for i := 0; i < len(lists); i++ {
		if len(lists[i]) == most {
			break
		}
		for _, s := range stamps {
			lists = append(lists, append(slices.Clone(lists[i]), s))
		}
	}
	return lists
}

// partsOf are all lists with a part of these timestamps.
func partsOf(stamps []api.Stamp) [][]api.Stamp {
	var lists [][]api.Stamp
	for n := range 1 << len(stamps) {
		var list []api.Stamp
		for i, s := range stamps {
			if n>>i&1 == 1 {
				list = append(list, s)
			}
		}
		lists = append(lists, list)
	}
	return lists
}

// falling is n timestamps no two of which are comparable, in increasing order.
func falling(n int) []api.Stamp {
	var list []api.Stamp
	for i := range n {
		list = append(list, at(i, n-i))
	}
	return list
}

// randomList is a list of at most 12 timestamps, near each other or of the ends.
func randomList(r *rand.Rand) []api.Stamp {
	part := func() int {
		if r.Intn(6) == 0 {
			return ends[r.Intn(len(ends))]
		}
		return r.Intn(8)
	}
	list := make([]api.Stamp, r.Intn(13))
	for i := range list {
		list[i] = at(part(), part())
	}
	return list
}

func reversed(l []api.Stamp) []api.Stamp {
	l = slices.Clone(l)
	slices.Reverse(l)
	return l
}

// The chapter's examples, and the first of the document's own.
func TestExamples(t *testing.T) {
	l := []api.Stamp{at(1, 2), at(0, 3), at(2, 2), at(1, 2)}
	least := Min(l)
	if !slices.Equal(least, []api.Stamp{at(0, 3), at(1, 2)}) {
		t.Errorf("Min: got %v", least)
	}
	for _, list := range [][]api.Stamp{l, least} {
		if !Covers(list, at(1, 3)) || Covers(list, at(0, 2)) {
			t.Errorf("Covers of %v: got %v for (1, 3), %v for (0, 2)", list, Covers(list, at(1, 3)), Covers(list, at(0, 2)))
		}
	}
	both := []api.Stamp{at(1, 5), at(2, 3)}
	if got := Min(both); !slices.Equal(got, both) {
		t.Errorf("Min of both: got %v", got)
	}
}

// P3.1: lists whose Row and Min are written out.
func TestRowAndMin(t *testing.T) {
	cases := []struct {
		name         string
		l, row, mins []api.Stamp
	}{
		{"nil", nil, nil, nil},
		{"empty", []api.Stamp{}, nil, nil},
		{"one", []api.Stamp{at(3, 4)}, []api.Stamp{at(3, 4)}, []api.Stamp{at(3, 4)}},
		{"one, not valid", []api.Stamp{at(-1, math.MaxInt)}, []api.Stamp{at(-1, math.MaxInt)}, []api.Stamp{at(-1, math.MaxInt)}},
		{"the same three times", []api.Stamp{at(3, 4), at(3, 4), at(3, 4)}, []api.Stamp{at(3, 4)}, []api.Stamp{at(3, 4)}},
		{"the same, apart", []api.Stamp{at(1, 2), at(0, 3), at(1, 2), at(0, 3)}, []api.Stamp{at(0, 3), at(1, 2)}, []api.Stamp{at(0, 3), at(1, 2)}},
		{"one epoch", []api.Stamp{at(5, 2), at(5, 0), at(5, 1)}, []api.Stamp{at(5, 0), at(5, 1), at(5, 2)}, []api.Stamp{at(5, 0)}},
		{"one round", []api.Stamp{at(2, 5), at(0, 5), at(1, 5)}, []api.Stamp{at(0, 5), at(1, 5), at(2, 5)}, []api.Stamp{at(0, 5)}},
		{"a chain, increasing", []api.Stamp{at(0, 0), at(1, 1), at(2, 2)}, []api.Stamp{at(0, 0), at(1, 1), at(2, 2)}, []api.Stamp{at(0, 0)}},
		{"a chain, decreasing", []api.Stamp{at(2, 2), at(1, 1), at(0, 0)}, []api.Stamp{at(0, 0), at(1, 1), at(2, 2)}, []api.Stamp{at(0, 0)}},
		{"incomparable, increasing", []api.Stamp{at(0, 2), at(1, 1), at(2, 0)}, []api.Stamp{at(0, 2), at(1, 1), at(2, 0)}, []api.Stamp{at(0, 2), at(1, 1), at(2, 0)}},
		{"incomparable, decreasing", []api.Stamp{at(2, 0), at(1, 1), at(0, 2)}, []api.Stamp{at(0, 2), at(1, 1), at(2, 0)}, []api.Stamp{at(0, 2), at(1, 1), at(2, 0)}},
		{"one LessEq to all, last", []api.Stamp{at(2, 9), at(9, 2), at(4, 4), at(2, 2)}, []api.Stamp{at(2, 2), at(2, 9), at(4, 4), at(9, 2)}, []api.Stamp{at(2, 2)}},
		{"one LessEq to some", []api.Stamp{at(3, 3), at(0, 9), at(2, 2), at(9, 0), at(1, 9)}, []api.Stamp{at(0, 9), at(1, 9), at(2, 2), at(3, 3), at(9, 0)}, []api.Stamp{at(0, 9), at(2, 2), at(9, 0)}},
		{"covered by one that isn't the last", []api.Stamp{at(0, 5), at(1, 5), at(2, 1), at(3, 6)}, []api.Stamp{at(0, 5), at(1, 5), at(2, 1), at(3, 6)}, []api.Stamp{at(0, 5), at(2, 1)}},
		{"the type's ends", []api.Stamp{at(math.MaxInt, math.MinInt), at(math.MinInt, math.MaxInt), at(math.MaxInt, math.MaxInt)}, []api.Stamp{at(math.MinInt, math.MaxInt), at(math.MaxInt, math.MinInt), at(math.MaxInt, math.MaxInt)}, []api.Stamp{at(math.MinInt, math.MaxInt), at(math.MaxInt, math.MinInt)}},
		{"the least of the type", []api.Stamp{at(0, 0), at(math.MaxInt, math.MaxInt), at(math.MinInt, math.MinInt)}, []api.Stamp{at(math.MinInt, math.MinInt), at(0, 0), at(math.MaxInt, math.MaxInt)}, []api.Stamp{at(math.MinInt, math.MinInt)}},
		{"around the valid ones", []api.Stamp{at(1000001, -1), at(1000000, 0), at(-1, 1000001), at(0, 1000000)}, []api.Stamp{at(-1, 1000001), at(0, 1000000), at(1000000, 0), at(1000001, -1)}, []api.Stamp{at(-1, 1000001), at(0, 1000000), at(1000000, 0), at(1000001, -1)}},
	}
	for _, c := range cases {
		if got := Row(c.l); !slices.Equal(got, c.row) {
			t.Errorf("%s: Row: got %v, want %v", c.name, got, c.row)
		}
		if got := Min(c.l); !slices.Equal(got, c.mins) {
			t.Errorf("%s: Min: got %v, want %v", c.name, got, c.mins)
		}
	}
}

// P3.1: every list of at most five timestamps of a small grid.
func TestRowAndMinOfAllSmallLists(t *testing.T) {
	for _, l := range listsOf(stampsOf([]int{0, 1, 2}), 5) {
		checkLists(t, l)
	}
}

// P3.1: pairs and triples of any timestamps, valid or not.
func TestRowAndMinOfEnds(t *testing.T) {
	for _, l := range listsOf(stampsOf(ends), 2) {
		checkLists(t, l)
	}
	for _, l := range listsOf(stampsOf([]int{math.MinInt, -1, 1000001, math.MaxInt}), 3) {
		checkLists(t, l)
	}
}

// P3.1: longer lists, increasing, decreasing and mixed.
func TestRowAndMinOfLongLists(t *testing.T) {
	r := rand.New(rand.NewSource(3))
	long := falling(200)
	for _, s := range falling(200) {
		long = append(long, s, at(s.Epoch+7, s.Round+3))
	}
	all := stampsOf(ends)
	for _, l := range [][]api.Stamp{falling(300), long, wantRow(long), all, append(slices.Clone(long), at(0, 0))} {
		mixed := slices.Clone(l)
		r.Shuffle(len(mixed), func(i, j int) { mixed[i], mixed[j] = mixed[j], mixed[i] })
		checkLists(t, l)
		checkLists(t, reversed(l))
		checkLists(t, mixed)
	}
	for range 5000 {
		checkLists(t, randomList(r))
	}
}

// P0: a list far longer than the layers above make any, and one that is an antichain already.
func TestGreatLists(t *testing.T) {
	const n = 200000
	l := falling(n)
	if got := Min(reversed(l)); !slices.Equal(got, l) {
		t.Errorf("Min of %d incomparable timestamps: got %d", n, len(got))
	}
	same := slices.Repeat([]api.Stamp{at(7, 7)}, n)
	if got := Row(same); !slices.Equal(got, same[:1]) {
		t.Errorf("Row of one timestamp %d times: got %d", n, len(got))
	}
}

// P3.2: lists and timestamps for which Covers is written out.
func TestCovers(t *testing.T) {
	l := []api.Stamp{at(4, 1), at(1, 4), at(4, 1)}
	cases := []struct {
		l    []api.Stamp
		t    api.Stamp
		want bool
	}{
		{nil, at(0, 0), false},
		{[]api.Stamp{}, at(math.MaxInt, math.MaxInt), false},
		{[]api.Stamp{at(2, 3)}, at(2, 3), true},
		{[]api.Stamp{at(2, 3)}, at(2, 4), true},
		{[]api.Stamp{at(2, 3)}, at(3, 3), true},
		{[]api.Stamp{at(2, 3)}, at(1, 3), false},
		{[]api.Stamp{at(2, 3)}, at(2, 2), false},
		{[]api.Stamp{at(2, 3)}, at(3, 2), false},
		{[]api.Stamp{at(2, 3)}, at(1, 4), false},
		{l, at(4, 1), true},
		{l, at(1, 4), true},
		{l, at(4, 4), true},
		{l, at(3, 3), false},
		{l, at(0, 9), false},
		{l, at(9, 0), false},
		{[]api.Stamp{at(0, 0)}, at(-1, 0), false},
		{[]api.Stamp{at(0, 0)}, at(1000001, 1000001), true},
		{[]api.Stamp{at(math.MinInt, math.MinInt)}, at(math.MinInt, math.MinInt), true},
		{[]api.Stamp{at(math.MinInt, math.MinInt)}, at(math.MaxInt, math.MaxInt), true},
		{[]api.Stamp{at(math.MaxInt, math.MinInt)}, at(math.MinInt, math.MaxInt), false},
	}
	for _, c := range cases {
		if got := Covers(c.l, c.t); got != c.want {
			t.Errorf("Covers(%v, %v): got %v", c.l, c.t, got)
		}
	}
}

// P3.2: Covers by its words, for lists in any order and timestamps valid or not.
func TestCoversByItsWords(t *testing.T) {
	check := func(l []api.Stamp, s api.Stamp) {
		if got, want := Covers(l, s), wantCovers(l, s); got != want {
			t.Errorf("Covers(%v, %v): got %v", l, s, got)
		}
	}
	for _, l := range listsOf(stampsOf([]int{0, 1, 2}), 3) {
		for _, s := range stampsOf([]int{-1, 0, 1, 2, 3}) {
			check(l, s)
		}
	}
	for _, l := range listsOf(stampsOf([]int{math.MinInt, -1, 1000001, math.MaxInt}), 2) {
		for _, s := range stampsOf(ends) {
			check(l, s)
		}
	}
}

// P3.2: lists for which Beyond is written out.
func TestBeyond(t *testing.T) {
	l := []api.Stamp{at(1, 2), at(0, 3), at(2, 2), at(1, 2)}
	cases := []struct {
		name string
		a, b []api.Stamp
		want bool
	}{
		{"nil and nil", nil, nil, true},
		{"empty and nil", []api.Stamp{}, nil, true},
		{"nothing and something", nil, l, true},
		{"something and nothing", l, nil, false},
		{"one and empty", []api.Stamp{at(math.MaxInt, math.MaxInt)}, []api.Stamp{}, false},
		{"itself", l, l, true},
		{"its least", l, []api.Stamp{at(0, 3), at(1, 2)}, true},
		{"what is covered by one each", []api.Stamp{at(9, 2), at(0, 9)}, l, true},
		{"the last isn't covered", []api.Stamp{at(9, 2), at(0, 9), at(0, 2)}, l, false},
		{"the first isn't covered", []api.Stamp{at(0, 2), at(9, 2), at(0, 9)}, l, false},
		{"one that is ahead of all", []api.Stamp{at(0, 0)}, l, false},
		{"all behind one", l, []api.Stamp{at(0, 0)}, true},
		{"incomparable", []api.Stamp{at(1, 5)}, []api.Stamp{at(2, 3)}, false},
		{"not valid", []api.Stamp{at(math.MinInt, 0)}, []api.Stamp{at(0, math.MinInt)}, false},
		{"all behind the type's least", stampsOf(ends), []api.Stamp{at(math.MinInt, math.MinInt)}, true},
	}
	for _, c := range cases {
		if got := Beyond(c.a, c.b); got != c.want {
			t.Errorf("%s: Beyond(%v, %v): got %v", c.name, c.a, c.b, got)
		}
	}
}

// P3.2: Beyond by its words, for all pairs of small lists and for random ones.
func TestBeyondByItsWords(t *testing.T) {
	lists := listsOf(stampsOf([]int{0, 1, 2}), 3)
	for _, a := range lists {
		for _, b := range lists {
			checkBeyond(t, a, b)
		}
	}
	r := rand.New(rand.NewSource(4))
	for range 5000 {
		checkBeyond(t, randomList(r), randomList(r))
	}
}

// P3.3: Min is an antichain, its Min is itself, and it covers just what the list covers.
func TestMinIsAnAntichain(t *testing.T) {
	r := rand.New(rand.NewSource(5))
	lists := listsOf(stampsOf([]int{0, 1, 2}), 4)
	for range 2000 {
		lists = append(lists, randomList(r))
	}
	probes := append(stampsOf([]int{-1, 0, 1, 2, 3, 7}), stampsOf(ends)...)
	for _, l := range lists {
		least := Min(l)
		for i, a := range least {
			for j, b := range least {
				if i < j && !ahead(a, b) {
					t.Errorf("Min(%v) is %v: not ordered", l, least)
				}
				if i != j && lessEq(a, b) {
					t.Errorf("Min(%v) is %v: %v is LessEq to %v", l, least, a, b)
				}
			}
		}
		if again := Min(least); !slices.Equal(again, least) {
			t.Errorf("Min(%v) is %v, and Min of that is %v", l, least, again)
		}
		for _, s := range probes {
			if Covers(least, s) != Covers(l, s) {
				t.Errorf("Min(%v) is %v: for %v they differ", l, least, s)
			}
		}
		if !Beyond(l, least) || !Beyond(least, l) {
			t.Errorf("Min(%v) is %v: not beyond each other", l, least)
		}
	}
}

// P3.3: of all lists that cover the same, Min is the only one of its size, and none is smaller.
func TestMinIsTheSmallest(t *testing.T) {
	// Lists of one grid that cover the same timestamps of it cover the same everywhere.
	grid := stampsOf([]int{0, 1, 2})
	covered := func(l []api.Stamp) int {
		bits := 0
		for i, s := range grid {
			if Covers(l, s) {
				bits |= 1 << i
			}
		}
		return bits
	}
	least := map[int][]api.Stamp{}
	lists := partsOf(grid)
	for _, l := range lists {
		least[covered(l)] = Min(l)
	}
	for _, l := range lists {
		m := least[covered(l)]
		if len(l) < len(m) || len(l) == len(m) && !slices.Equal(l, m) {
			t.Errorf("%v covers what %v covers", l, m)
		}
		if got := Min(l); !slices.Equal(got, m) {
			t.Errorf("Min(%v): got %v, but %v covers the same", l, got, m)
		}
	}
}

// P3.3: Beyond is transitive, and holds for a list and itself.
func TestBeyondIsTransitive(t *testing.T) {
	lists := partsOf([]api.Stamp{at(-1, 1), at(0, 0), at(0, 1), at(1, -1), at(1, 0), at(1, 1)})
	for _, a := range lists {
		if !Beyond(a, a) {
			t.Errorf("%v is not beyond itself", a)
		}
		for _, b := range lists {
			if !Beyond(a, b) {
				continue
			}
			for _, c := range lists {
				if Beyond(b, c) && !Beyond(a, c) {
					t.Errorf("%v, %v, %v: not transitive", a, b, c)
				}
			}
		}
	}
}

// P3.3: Beyond holds in both directions just for lists with the same Min.
func TestBeyondBothWays(t *testing.T) {
	lists := partsOf(stampsOf([]int{0, 1, 2}))
	for _, a := range lists {
		least := Min(a)
		for _, b := range lists {
			if both := Beyond(a, b) && Beyond(b, a); both != slices.Equal(least, Min(b)) {
				t.Errorf("%v and %v: Beyond in both directions: %v, Min: %v and %v", a, b, both, least, Min(b))
			}
		}
	}
}

// R3: no argument is modified, not even behind its end.
func TestArgumentsAreLeftAlone(t *testing.T) {
	room := []api.Stamp{at(2, 2), at(0, 3), at(1, 2), at(0, 3), at(9, 9), at(0, 0)}
	other := []api.Stamp{at(3, 3), at(2, 2), at(3, 3), at(-1, -1)}
	roomWas, otherWas := slices.Clone(room), slices.Clone(other)
	for n := range room {
		Row(room[:n])
		Min(room[:n])
		Covers(room[:n], at(1, 2))
		Beyond(room[:n], other[:3])
		Beyond(other[:3], room[:n])
		if !slices.Equal(room, roomWas) || !slices.Equal(other, otherWas) {
			t.Fatalf("of %d: got %v and %v", n, room, other)
		}
	}
}

// R3: a result is the caller's: what it writes there, or behind the end, reaches no argument, and no other result.
func TestResultsAreTheCallersOwn(t *testing.T) {
	calls := map[string]func([]api.Stamp) []api.Stamp{"Row": Row, "Min": Min}
	for name, call := range calls {
		for n := range 5 {
			room := append(falling(n), at(0, 0), at(0, 0))
			l, was := room[:n], slices.Clone(room)
			got, other := call(l), call(l)
			spoil(got)
			if !slices.Equal(room, was) {
				t.Errorf("%s of %d: the argument became %v", name, n, room)
			}
			if !slices.Equal(other, falling(n)) {
				t.Errorf("%s of %d: another result became %v", name, n, other)
			}
			spoil(room)
			if again := call(was[:n]); !slices.Equal(other, falling(n)) || !slices.Equal(again, other) {
				t.Errorf("%s of %d: with the argument the result became %v, a later one %v", name, n, other, again)
			}
		}
	}
}

// spoil overwrites a list, up to the end of its memory.
func spoil(l []api.Stamp) {
	l = l[:cap(l)]
	for i := range l {
		l[i] = at(-77, -77)
	}
}

// P0, P3.1 to P3.3: any lists at all; a byte picks a timestamp near the others, or one of the ends.
func FuzzLists(f *testing.F) {
	f.Add([]byte{}, []byte{0})
	f.Add([]byte{0x12, 0x03, 0x22, 0x12}, []byte{0x03, 0x12})
	f.Add([]byte{0x80, 0xFF, 0xAA}, []byte{0x8A, 0xA8, 0xA8})
	listOf := func(text []byte) []api.Stamp {
		part := func(n byte) int {
			if n < 8 {
				return int(n)
			}
			return ends[(int(n)-8)*4%len(ends)]
		}
		var list []api.Stamp
		for _, c := range text[:min(len(text), 64)] {
			list = append(list, at(part(c>>4), part(c&15)))
		}
		return list
	}
	f.Fuzz(func(t *testing.T, one, two []byte) {
		a, b := listOf(one), listOf(two)
		checkLists(t, a)
		checkLists(t, b)
		checkBeyond(t, a, b)
		checkBeyond(t, b, a)
		if (Beyond(a, b) && Beyond(b, a)) != slices.Equal(Min(a), Min(b)) {
			t.Errorf("%v and %v: Beyond in both directions, and Min", a, b)
		}
	})
}
