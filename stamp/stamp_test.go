package stamp

import (
	"math"
	"math/big"
	"math/rand"
	"testing"

	"garboard/api"
)

// edges are the values of a part around which something changes, and the type's own ends.
var edges = []int{
	math.MinInt, math.MinInt + 1, -1000001, -1000000, -2, -1, 0, 1, 2, 499999, 500000, 500001,
	999999, 1000000, 1000001, 1000002, math.MaxInt - 1000000, math.MaxInt - 1, math.MaxInt,
}

// few are enough of them for triples and quadruples of timestamps.
var few = []int{math.MinInt, -1, 0, 1, 1000000, 1000001, math.MaxInt}

func at(epoch, round int) api.Stamp { return api.Stamp{Epoch: epoch, Round: round} }

func by(epoch, round int) api.Path { return api.Path{Epoch: epoch, Round: round} }

// stampsOf are all timestamps with these parts.
func stampsOf(parts []int) []api.Stamp {
	var list []api.Stamp
	for _, e := range parts {
		for _, r := range parts {
			list = append(list, at(e, r))
		}
	}
	return list
}

// pathsOf are all paths with these parts.
func pathsOf(parts []int) []api.Path {
	var list []api.Path
	for _, s := range stampsOf(parts) {
		list = append(list, api.Path(s))
	}
	return list
}

// grid are the whole numbers from low to high.
func grid(low, high int) []int {
	var list []int
	for n := low; n <= high; n++ {
		list = append(list, n)
	}
	return list
}

// sum is a sum that does not wrap round, and whether it is 0 to 1000000.
func sum(a, b int) (int, bool) {
	s := new(big.Int).Add(big.NewInt(int64(a)), big.NewInt(int64(b)))
	if s.Sign() < 0 || s.Cmp(big.NewInt(1000000)) > 0 {
		return 0, false
	}
	return int(s.Int64()), true
}

// wantAfter is After's result by big numbers.
func wantAfter(t api.Stamp, p api.Path) (api.Stamp, bool) {
	for _, n := range []int{t.Epoch, t.Round, p.Epoch, p.Round} {
		if n < 0 || n > 1000000 {
			return api.Stamp{}, false
		}
	}
	e, is := sum(t.Epoch, p.Epoch)
	r, also := sum(t.Round, p.Round)
	if !is || !also {
		return api.Stamp{}, false
	}
	return at(e, r), true
}

// checkAfter holds one result of After against that by big numbers.
func checkAfter(t *testing.T, s api.Stamp, p api.Path) {
	t.Helper()
	got, is := After(s, p)
	if want, wantIs := wantAfter(s, p); got != want || is != wantIs {
		t.Errorf("After(%v, %v): got %v %v, want %v %v", s, p, got, is, want, wantIs)
	}
}

// The chapter's examples, and the first of the document's own.
func TestExamples(t *testing.T) {
	a, b := at(1, 5), at(2, 3)
	if LessEq(a, b) || LessEq(b, a) {
		t.Error("(1, 5) and (2, 3) are incomparable")
	}
	if j := Join(a, b); j != at(2, 5) {
		t.Errorf("Join: got %v", j)
	}
	if m := Meet(a, b); m != at(1, 3) {
		t.Errorf("Meet: got %v", m)
	}
	if c := Cmp(a, b); c != -1 {
		t.Errorf("Cmp: got %d", c)
	}
	if s, is := After(a, by(0, 1)); s != at(1, 6) || !is {
		t.Errorf("After: got %v %v", s, is)
	}
}

// P2.1: each part is 0 to 1000000, and each of them counts.
func TestRight(t *testing.T) {
	valid := map[int]bool{0: true, 1: true, 2: true, 499999: true, 500000: true, 500001: true, 999999: true, 1000000: true}
	for _, s := range stampsOf(edges) {
		if got, want := Right(s), valid[s.Epoch] && valid[s.Round]; got != want {
			t.Errorf("Right(%v): got %v", s, got)
		}
	}
}

// P2.1: pairs that are equal, ordered in one part or in both, and incomparable.
func TestLessEqPairs(t *testing.T) {
	cases := []struct {
		name    string
		a, b    api.Stamp
		ab, ba  bool
		joined  api.Stamp
		meeting api.Stamp
	}{
		{"equal", at(3, 4), at(3, 4), true, true, at(3, 4), at(3, 4)},
		{"equal and zero", at(0, 0), at(0, 0), true, true, at(0, 0), at(0, 0)},
		{"less in both", at(1, 2), at(3, 4), true, false, at(3, 4), at(1, 2)},
		{"less in the epoch", at(1, 4), at(3, 4), true, false, at(3, 4), at(1, 4)},
		{"less in the round", at(3, 2), at(3, 4), true, false, at(3, 4), at(3, 2)},
		{"incomparable", at(1, 4), at(3, 2), false, false, at(3, 4), at(1, 2)},
		{"parts exchanged", at(5, 7), at(7, 5), false, false, at(7, 7), at(5, 5)},
		{"at the limit", at(1000000, 0), at(1000000, 1000000), true, false, at(1000000, 1000000), at(1000000, 0)},
		{"above the limit", at(1000000, 1000001), at(1000001, 1000000), false, false, at(1000001, 1000001), at(1000000, 1000000)},
		{"below 0", at(-1, -1), at(0, 0), true, false, at(0, 0), at(-1, -1)},
		{"below 0 in one part", at(-1, 0), at(0, -1), false, false, at(0, 0), at(-1, -1)},
		{"the type's ends", at(math.MinInt, math.MinInt), at(math.MaxInt, math.MaxInt), true, false,
			at(math.MaxInt, math.MaxInt), at(math.MinInt, math.MinInt)},
		{"the type's ends crossed", at(math.MinInt, math.MaxInt), at(math.MaxInt, math.MinInt), false, false,
			at(math.MaxInt, math.MaxInt), at(math.MinInt, math.MinInt)},
	}
	for _, c := range cases {
		if LessEq(c.a, c.b) != c.ab || LessEq(c.b, c.a) != c.ba {
			t.Errorf("%s: LessEq is %v and %v", c.name, LessEq(c.a, c.b), LessEq(c.b, c.a))
		}
		if Join(c.a, c.b) != c.joined || Join(c.b, c.a) != c.joined {
			t.Errorf("%s: Join is %v and %v", c.name, Join(c.a, c.b), Join(c.b, c.a))
		}
		if Meet(c.a, c.b) != c.meeting || Meet(c.b, c.a) != c.meeting {
			t.Errorf("%s: Meet is %v and %v", c.name, Meet(c.a, c.b), Meet(c.b, c.a))
		}
	}
}

// P2.1: LessEq, Join and Meet part by part, for any timestamps, valid or not.
func TestPartByPart(t *testing.T) {
	list := stampsOf(edges)
	for _, a := range list {
		for _, b := range list {
			if got, want := LessEq(a, b), a.Epoch <= b.Epoch && a.Round <= b.Round; got != want {
				t.Errorf("LessEq(%v, %v): got %v", a, b, got)
			}
			greater, lesser := a, b
			if a.Epoch < b.Epoch {
				greater.Epoch, lesser.Epoch = b.Epoch, a.Epoch
			}
			if a.Round < b.Round {
				greater.Round, lesser.Round = b.Round, a.Round
			}
			if got := Join(a, b); got != greater {
				t.Errorf("Join(%v, %v): got %v, want %v", a, b, got, greater)
			}
			if got := Meet(a, b); got != lesser {
				t.Errorf("Meet(%v, %v): got %v, want %v", a, b, got, lesser)
			}
		}
	}
}

// P2.2: sums that are just valid and just too great, and arguments that may not be.
func TestAfterEdges(t *testing.T) {
	const most = 1000000
	none := api.Stamp{}
	cases := []struct {
		name string
		t    api.Stamp
		p    api.Path
		want api.Stamp
		is   bool
	}{
		{"nothing added to zero", at(0, 0), by(0, 0), at(0, 0), true},
		{"nothing added", at(7, 9), by(0, 0), at(7, 9), true},
		{"both parts", at(1, 2), by(30, 40), at(31, 42), true},
		{"the greatest path", at(0, 0), by(most, most), at(most, most), true},
		{"the greatest timestamp", at(most, most), by(0, 0), at(most, most), true},
		{"just valid epoch", at(999999, 0), by(1, 0), at(most, 0), true},
		{"just valid round", at(0, 999999), by(0, 1), at(0, most), true},
		{"just valid halves", at(500000, 500000), by(500000, 500000), at(most, most), true},
		{"epoch just too great", at(most, 0), by(1, 0), none, false},
		{"round just too great", at(0, most), by(0, 1), none, false},
		{"half of it just too great", at(500000, 0), by(500001, 0), none, false},
		{"both greatest", at(most, most), by(most, most), none, false},
		{"epoch too great, round added", at(most, 3), by(1, 4), none, false},
		{"path's epoch above the limit", at(0, 0), by(most+1, 0), none, false},
		{"path's round above the limit", at(0, 0), by(0, most+1), none, false},
		{"path's epoch below 0", at(5, 5), by(-1, 0), none, false},
		{"path's round below 0", at(5, 5), by(0, -1), none, false},
		{"timestamp's epoch below 0, sum valid", at(-1, 0), by(1, 0), none, false},
		{"timestamp's round below 0, sum valid", at(0, -1), by(0, 1), none, false},
		{"timestamp above the limit", at(most+1, 0), by(0, 0), none, false},
		{"timestamp above the limit, path back below it", at(most+1, 0), by(-1, 0), none, false},
		{"round above the limit, path back below it", at(0, most+1), by(0, -1), none, false},
		{"path above the limit, timestamp back below it", at(-1, 0), by(most+1, 0), none, false},
		{"sum wraps round below 0", at(1, 1), by(math.MaxInt, math.MaxInt), none, false},
		{"sum wraps round to 0", at(math.MinInt, 0), by(math.MinInt, 0), none, false},
		{"sum of the ends is -1", at(math.MaxInt, 0), by(math.MinInt, 0), none, false},
		{"round wraps round to 0", at(0, math.MinInt), by(0, math.MinInt), none, false},
	}
	for _, c := range cases {
		if got, is := After(c.t, c.p); got != c.want || is != c.is {
			t.Errorf("%s: After(%v, %v): got %v %v, want %v %v", c.name, c.t, c.p, got, is, c.want, c.is)
		}
	}
}

// P2.2: After against big numbers, at all edges and at random.
func TestAfterAgainstBigNumbers(t *testing.T) {
	for _, e := range edges {
		for _, p := range edges {
			for _, n := range []int{-1, 0, 1, 1000000, 1000001} {
				checkAfter(t, at(e, n), by(p, 0))
				checkAfter(t, at(e, 0), by(p, n))
				checkAfter(t, at(n, e), by(0, p))
				checkAfter(t, at(0, e), by(n, p))
			}
		}
	}
	r := rand.New(rand.NewSource(2))
	part := func() int {
		if r.Intn(8) == 0 {
			return edges[r.Intn(len(edges))]
		}
		return r.Intn(1000001)
	}
	for range 20000 {
		checkAfter(t, at(part(), part()), by(part(), part()))
	}
}

// P2.3: the epoch first, the round only within one epoch.
func TestCmp(t *testing.T) {
	cases := []struct {
		a, b api.Stamp
		want int
	}{
		{at(0, 0), at(0, 0), 0},
		{at(3, 4), at(3, 4), 0},
		{at(3, 4), at(3, 5), -1},
		{at(3, 4), at(4, 4), -1},
		{at(3, 4), at(4, 0), -1},
		{at(3, 1000000), at(4, -1), -1},
		{at(-1, 0), at(0, -1), -1},
		{at(1000000, 1000000), at(1000001, 0), -1},
		{at(math.MinInt, math.MaxInt), at(math.MaxInt, math.MinInt), -1},
		{at(0, math.MinInt), at(0, math.MaxInt), -1},
		{at(math.MinInt, math.MinInt), at(math.MinInt, math.MinInt), 0},
		{at(math.MaxInt, math.MaxInt), at(math.MaxInt, math.MaxInt), 0},
	}
	for _, c := range cases {
		if got := Cmp(c.a, c.b); got != c.want {
			t.Errorf("Cmp(%v, %v): got %d, want %d", c.a, c.b, got, c.want)
		}
		if got := Cmp(c.b, c.a); got != -c.want {
			t.Errorf("Cmp(%v, %v): got %d, want %d", c.b, c.a, got, -c.want)
		}
	}
}

// P2.3: Cmp by its own words, for any timestamps, valid or not.
func TestCmpByItsWords(t *testing.T) {
	before := func(a, b api.Stamp) bool {
		return a.Epoch < b.Epoch || (a.Epoch == b.Epoch && a.Round < b.Round)
	}
	list := stampsOf(edges)
	for _, a := range list {
		for _, b := range list {
			want := 0
			if before(a, b) {
				want = -1
			} else if before(b, a) {
				want = 1
			}
			if got := Cmp(a, b); got != want {
				t.Errorf("Cmp(%v, %v): got %d, want %d", a, b, got, want)
			}
		}
	}
}

// P2.4: LessEq is a partial order: reflexive, antisymmetric, transitive.
func TestPartialOrder(t *testing.T) {
	for _, list := range [][]api.Stamp{stampsOf(few), stampsOf(grid(0, 3))} {
		for _, a := range list {
			if !LessEq(a, a) {
				t.Errorf("%v is not LessEq to itself", a)
			}
			for _, b := range list {
				if LessEq(a, b) && LessEq(b, a) && a != b {
					t.Errorf("%v and %v are LessEq to each other", a, b)
				}
				for _, c := range list {
					if LessEq(a, b) && LessEq(b, c) && !LessEq(a, c) {
						t.Errorf("%v, %v, %v: not transitive", a, b, c)
					}
				}
			}
		}
	}
}

// P2.4: Join is the least upper bound, Meet the greatest lower bound.
func TestBounds(t *testing.T) {
	for _, list := range [][]api.Stamp{stampsOf(few), stampsOf(grid(0, 3))} {
		for _, a := range list {
			for _, b := range list {
				j, m := Join(a, b), Meet(a, b)
				if !LessEq(a, j) || !LessEq(b, j) {
					t.Errorf("Join(%v, %v) is %v: no upper bound", a, b, j)
				}
				if !LessEq(m, a) || !LessEq(m, b) {
					t.Errorf("Meet(%v, %v) is %v: no lower bound", a, b, m)
				}
				for _, c := range list {
					if LessEq(a, c) && LessEq(b, c) && !LessEq(j, c) {
						t.Errorf("Join(%v, %v) is %v: %v is an upper bound as well", a, b, j, c)
					}
					if LessEq(c, a) && LessEq(c, b) && !LessEq(c, m) {
						t.Errorf("Meet(%v, %v) is %v: %v is a lower bound as well", a, b, m, c)
					}
				}
			}
		}
	}
}

// P2.4: After preserves LessEq; what is LessEq to a timestamp that has a sum has one, too.
func TestAfterPreservesLessEq(t *testing.T) {
	near := append(grid(0, 3), 999998, 999999, 1000000)
	paths := pathsOf([]int{-1, 0, 1, 2, 999999, 1000000, 1000001})
	for _, a := range stampsOf(near) {
		for _, b := range stampsOf(near) {
			if !LessEq(a, b) {
				continue
			}
			for _, p := range paths {
				afterA, isA := After(a, p)
				afterB, isB := After(b, p)
				if isB && !isA {
					t.Errorf("%v after %v is valid, but %v is not", b, p, a)
				}
				if isA && isB && !LessEq(afterA, afterB) {
					t.Errorf("after %v: %v and %v become %v and %v", p, a, b, afterA, afterB)
				}
				if isA && !LessEq(a, afterA) {
					t.Errorf("%v goes back to %v after %v", a, afterA, p)
				}
			}
		}
	}
}

// P2.4: Cmp does not order a after b if a is LessEq to b, and is itself a total order.
func TestCmpAgreesWithLessEq(t *testing.T) {
	for _, list := range [][]api.Stamp{stampsOf(few), stampsOf(grid(0, 3))} {
		for _, a := range list {
			for _, b := range list {
				if LessEq(a, b) && Cmp(a, b) > 0 {
					t.Errorf("%v is LessEq to %v, but Cmp is %d", a, b, Cmp(a, b))
				}
				if Cmp(a, b) != -Cmp(b, a) || (Cmp(a, b) == 0) != (a == b) {
					t.Errorf("Cmp(%v, %v) is %d, the other way %d", a, b, Cmp(a, b), Cmp(b, a))
				}
				for _, c := range list {
					if Cmp(a, b) < 0 && Cmp(b, c) < 0 && Cmp(a, c) >= 0 {
						t.Errorf("%v, %v, %v: Cmp does not order them in a row", a, b, c)
					}
				}
			}
		}
	}
}

// P0, P2.1 to P2.4: any arguments at all.
func FuzzStamps(f *testing.F) {
	f.Add(1, 5, 2, 3)
	f.Add(-1, 0, 1000000, 1000001)
	f.Add(math.MinInt, math.MaxInt, math.MaxInt, math.MinInt)
	f.Fuzz(func(t *testing.T, ae, ar, be, br int) {
		a, b := at(ae, ar), at(be, br)
		if Right(a) != (ae >= 0 && ae <= 1000000 && ar >= 0 && ar <= 1000000) {
			t.Errorf("Right(%v): got %v", a, Right(a))
		}
		if LessEq(a, b) != (ae <= be && ar <= br) {
			t.Errorf("LessEq(%v, %v): got %v", a, b, LessEq(a, b))
		}
		if j, m := Join(a, b), Meet(a, b); !LessEq(a, j) || !LessEq(b, j) || !LessEq(m, a) || !LessEq(m, b) {
			t.Errorf("Join and Meet of %v and %v: got %v and %v", a, b, j, m)
		}
		if LessEq(a, b) && Cmp(a, b) > 0 || Cmp(a, b) != -Cmp(b, a) {
			t.Errorf("Cmp(%v, %v): got %d", a, b, Cmp(a, b))
		}
		checkAfter(t, a, api.Path(b))
	})
}
