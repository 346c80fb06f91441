package path

import (
	"math"
	"math/big"
	"math/rand"
	"slices"
	"testing"

	"garboard/api"
)

// most and longest are the limits of a part and of a list, by their numbers, so that no test leans on the constants.
const (
	most    = 1000000
	longest = 64
)

// ends are parts that are valid, that just aren't, and the type's own ends.
var ends = []int{math.MinInt, math.MinInt + 1, -1000001, -1000000, -1, 0, 1, 500000, 500001, 999999, 1000000, 1000001, math.MaxInt - 1, math.MaxInt}

func by(epoch, round int) api.Path { return api.Path{Epoch: epoch, Round: round} }

// valid, lessEq and ahead are in the document's words, so that no test leans on packages stamp and anti.
func valid(p api.Path) bool {
	return p.Epoch >= 0 && p.Epoch <= most && p.Round >= 0 && p.Round <= most
}

func lessEq(p, q api.Path) bool { return p.Epoch <= q.Epoch && p.Round <= q.Round }

func ahead(p, q api.Path) bool {
	return p.Epoch < q.Epoch || p.Epoch == q.Epoch && p.Round < q.Round
}

// wantThen adds with big numbers, which don't wrap round.
func wantThen(p, q api.Path) (api.Path, bool) {
	part := func(m, n int) (int, bool) {
		sum := new(big.Int).Add(big.NewInt(int64(m)), big.NewInt(int64(n)))
		return m + n, sum.Sign() >= 0 && sum.Cmp(big.NewInt(most)) <= 0
	}
	epoch, epochOK := part(p.Epoch, q.Epoch)
	round, roundOK := part(p.Round, q.Round)
	if !valid(p) || !valid(q) || !epochOK || !roundOK {
		return api.Path{}, false
	}
	return by(epoch, round), true
}

// wantMin holds each path against all others, and puts it at its place.
func wantMin(l []api.Path) []api.Path {
	var least []api.Path
	for _, p := range l {
		if slices.ContainsFunc(l, func(q api.Path) bool { return q != p && lessEq(q, p) }) {
			continue
		}
		i := 0
		for i < len(least) && ahead(least[i], p) {
			i++
		}
		if i == len(least) || least[i] != p {
			least = slices.Insert(least, i, p)
		}
	}
	return least
}

// wantEach is Each by the words of P5.2.
func wantEach(a, b []api.Path) ([]api.Path, bool) {
	notValid := func(p api.Path) bool { return !valid(p) }
	if slices.ContainsFunc(a, notValid) || slices.ContainsFunc(b, notValid) || len(a) > longest || len(b) > longest {
		return nil, false
	}
	var sums []api.Path
	for _, p := range a {
		for _, q := range b {
			if sum, ok := wantThen(p, q); ok {
				sums = append(sums, sum)
			}
		}
	}
	least := wantMin(sums)
	if len(least) > longest {
		return nil, false
	}
	return least, true
}

// checkThen holds Then of p and q against the words of P5.1.
func checkThen(t *testing.T, p, q api.Path) {
	t.Helper()
	got, ok := Then(p, q)
	if want, wantOK := wantThen(p, q); got != want || ok != wantOK {
		t.Errorf("Then(%v, %v): got %v %v, want %v %v", p, q, got, ok, want, wantOK)
	}
}

// checkMin holds Min of l against the words of P5.2.
func checkMin(t *testing.T, l []api.Path) {
	t.Helper()
	if got, want := Min(l), wantMin(l); !slices.Equal(got, want) {
		t.Errorf("Min(%v): got %v, want %v", l, got, want)
	}
}

// checkEach holds Each of a and b against the words of P5.2.
func checkEach(t *testing.T, a, b []api.Path) {
	t.Helper()
	got, ok := Each(a, b)
	if want, wantOK := wantEach(a, b); !slices.Equal(got, want) || ok != wantOK {
		t.Errorf("Each(%v, %v): got %v %v, want %v %v", a, b, got, ok, want, wantOK)
	}
}

// pathsOf are all paths with these parts, in increasing order if the parts are.
func pathsOf(parts []int) []api.Path {
	var list []api.Path
	for _, e := range parts {
		for _, r := range parts {
			list = append(list, by(e, r))
		}
	}
	return list
}

// listsOf are all lists of at most n paths, repeated ones and all orders among them.
func listsOf(paths []api.Path, n int) [][]api.Path {
	lists := [][]api.Path{nil}
	for i := 0; len(lists[i]) < n; i++ {
		for _, p := range paths {
			lists = append(lists, append(slices.Clone(lists[i]), p))
		}
	}
	return lists
}

// falling is n paths no two of which are comparable, in increasing order, apart by step in both parts.
func falling(n, step int) []api.Path {
	var list []api.Path
	for i := range n {
		list = append(list, by(step*i, step*(n-1-i)))
	}
	return list
}

// randomList is a list of less than n valid paths, near each other or near the limit.
func randomList(r *rand.Rand, n int) []api.Path {
	part := func() int {
		if r.Intn(4) == 0 {
			return most - r.Intn(8)
		}
		return r.Intn(8)
	}
	list := make([]api.Path, r.Intn(n))
	for i := range list {
		list[i] = by(part(), part())
	}
	return list
}

func reversed(l []api.Path) []api.Path {
	l = slices.Clone(l)
	slices.Reverse(l)
	return l
}

// The chapter's examples.
func TestExamples(t *testing.T) {
	if got, ok := Then(by(0, 1), by(2, 0)); got != by(2, 1) || !ok {
		t.Errorf("Then: got %v %v", got, ok)
	}
	a, b := []api.Path{by(0, 1), by(1, 0)}, []api.Path{by(0, 1)}
	want := []api.Path{by(0, 2), by(1, 1)}
	if got, ok := Each(a, b); !slices.Equal(got, want) || !ok {
		t.Errorf("Each: got %v %v", got, ok)
	}
	if got, ok := Each(b, a); !slices.Equal(got, want) || !ok {
		t.Errorf("Each, exchanged: got %v %v", got, ok)
	}
}

// P5.1: the least and the greatest valid parts, those beside them, and the type's ends.
func TestRight(t *testing.T) {
	cases := []struct {
		p    api.Path
		want bool
	}{
		{by(0, 0), true},
		{by(0, 1), true},
		{by(1, 0), true},
		{by(most, 0), true},
		{by(0, most), true},
		{by(most, most), true},
		{by(999999, 999999), true},
		{by(-1, 0), false},
		{by(0, -1), false},
		{by(-1, -1), false},
		{by(most+1, 0), false},
		{by(0, most+1), false},
		{by(most+1, most+1), false},
		{by(-1, most+1), false},
		{by(math.MinInt, 0), false},
		{by(0, math.MinInt), false},
		{by(math.MaxInt, 0), false},
		{by(0, math.MaxInt), false},
		{by(math.MaxInt, math.MinInt), false},
	}
	for _, c := range cases {
		if got := Right(c.p); got != c.want {
			t.Errorf("Right(%v): got %v", c.p, got)
		}
	}
	for _, p := range pathsOf(ends) {
		if got, want := Right(p), valid(p); got != want {
			t.Errorf("Right(%v): got %v", p, got)
		}
	}
}

// P5.1: sums that are just valid and just too great, and paths that are not valid.
func TestThenEdges(t *testing.T) {
	none := api.Path{}
	cases := []struct {
		name string
		p, q api.Path
		want api.Path
		ok   bool
	}{
		{"both zero", by(0, 0), by(0, 0), by(0, 0), true},
		{"both parts", by(1, 2), by(30, 40), by(31, 42), true},
		{"the greatest and zero", by(most, most), by(0, 0), by(most, most), true},
		{"just valid epoch", by(999999, 0), by(1, 0), by(most, 0), true},
		{"just valid round", by(0, 999999), by(0, 1), by(0, most), true},
		{"just valid halves", by(500000, 500000), by(500000, 500000), by(most, most), true},
		{"the greatest of one part each", by(most, 0), by(0, most), by(most, most), true},
		{"epoch just too great", by(most, 0), by(1, 0), none, false},
		{"round just too great", by(0, most), by(0, 1), none, false},
		{"half of it just too great", by(500000, 3), by(500001, 4), none, false},
		{"half of the round just too great", by(3, 500001), by(4, 500000), none, false},
		{"both greatest", by(most, most), by(most, most), none, false},
		{"epoch below 0", by(-1, 0), by(0, 0), none, false},
		{"round below 0", by(0, -1), by(0, 0), none, false},
		{"epoch below 0, sum valid", by(-1, 0), by(1, 0), none, false},
		{"round below 0, sum valid", by(0, -1), by(0, 1), none, false},
		{"epoch above the limit", by(most+1, 0), by(0, 0), none, false},
		{"round above the limit", by(0, most+1), by(0, 0), none, false},
		{"epoch above the limit, sum valid", by(most+1, 0), by(-1, 0), none, false},
		{"round above the limit, sum valid", by(0, most+1), by(0, -1), none, false},
		{"neither valid, sum valid", by(-1, most+1), by(most+1, -1), none, false},
		{"sum wraps round to -2", by(math.MaxInt, math.MaxInt), by(math.MaxInt, math.MaxInt), none, false},
		{"sum wraps round to 0", by(math.MinInt, math.MinInt), by(math.MinInt, math.MinInt), none, false},
		{"sum of the ends is -1", by(math.MaxInt, 0), by(math.MinInt, 0), none, false},
		{"sum wraps round below 0", by(1, 1), by(math.MaxInt, math.MaxInt), none, false},
	}
	for _, c := range cases {
		if got, ok := Then(c.p, c.q); got != c.want || ok != c.ok {
			t.Errorf("%s: Then(%v, %v): got %v %v, want %v %v", c.name, c.p, c.q, got, ok, c.want, c.ok)
		}
		if got, ok := Then(c.q, c.p); got != c.want || ok != c.ok {
			t.Errorf("%s, exchanged: Then(%v, %v): got %v %v, want %v %v", c.name, c.q, c.p, got, ok, c.want, c.ok)
		}
	}
}

// P5.1: Then by its words, at all edges and at random.
func TestThenByItsWords(t *testing.T) {
	for _, p := range pathsOf(ends) {
		for _, q := range pathsOf(ends) {
			checkThen(t, p, q)
		}
	}
	r := rand.New(rand.NewSource(5))
	for range 20000 {
		checkThen(t, by(r.Intn(most+2), r.Intn(most+2)), by(r.Intn(most+2), r.Intn(most+2)))
	}
}

// P5.2: lists whose Min is written out.
func TestMin(t *testing.T) {
	cases := []struct {
		name    string
		l, want []api.Path
	}{
		{"nil", nil, nil},
		{"empty", []api.Path{}, nil},
		{"one", []api.Path{by(3, 4)}, []api.Path{by(3, 4)}},
		{"the zero path", []api.Path{by(0, 0)}, []api.Path{by(0, 0)}},
		{"one, not valid", []api.Path{by(-1, math.MaxInt)}, []api.Path{by(-1, math.MaxInt)}},
		{"the same three times", []api.Path{by(3, 4), by(3, 4), by(3, 4)}, []api.Path{by(3, 4)}},
		{"the same, apart", []api.Path{by(1, 2), by(0, 3), by(1, 2), by(0, 3)}, []api.Path{by(0, 3), by(1, 2)}},
		{"one epoch", []api.Path{by(5, 2), by(5, 0), by(5, 1)}, []api.Path{by(5, 0)}},
		{"one round", []api.Path{by(2, 5), by(0, 5), by(1, 5)}, []api.Path{by(0, 5)}},
		{"comparable, increasing", []api.Path{by(0, 0), by(1, 1), by(2, 2)}, []api.Path{by(0, 0)}},
		{"comparable, decreasing", []api.Path{by(2, 2), by(1, 1), by(0, 0)}, []api.Path{by(0, 0)}},
		{"incomparable, increasing", []api.Path{by(0, 2), by(1, 1), by(2, 0)}, []api.Path{by(0, 2), by(1, 1), by(2, 0)}},
		{"incomparable, decreasing", []api.Path{by(2, 0), by(1, 1), by(0, 2)}, []api.Path{by(0, 2), by(1, 1), by(2, 0)}},
		{"some of each", []api.Path{by(3, 3), by(0, 9), by(2, 2), by(9, 0), by(1, 9), by(2, 2)}, []api.Path{by(0, 9), by(2, 2), by(9, 0)}},
		{"covered by one that isn't the last", []api.Path{by(0, 5), by(1, 5), by(2, 1), by(3, 6)}, []api.Path{by(0, 5), by(2, 1)}},
		{"one is LessEq to all, last", []api.Path{by(2, 9), by(9, 2), by(4, 4), by(2, 2)}, []api.Path{by(2, 2)}},
		{"around the valid ones", []api.Path{by(1000001, -1), by(1000000, 0), by(-1, 1000001), by(0, 1000000)}, []api.Path{by(-1, 1000001), by(0, 1000000), by(1000000, 0), by(1000001, -1)}},
		{"the type's ends", []api.Path{by(math.MaxInt, math.MinInt), by(math.MinInt, math.MaxInt), by(math.MaxInt, math.MaxInt)}, []api.Path{by(math.MinInt, math.MaxInt), by(math.MaxInt, math.MinInt)}},
		{"the least of the type", []api.Path{by(0, 0), by(math.MaxInt, math.MaxInt), by(math.MinInt, math.MinInt)}, []api.Path{by(math.MinInt, math.MinInt)}},
	}
	for _, c := range cases {
		if got := Min(c.l); !slices.Equal(got, c.want) {
			t.Errorf("%s: Min(%v): got %v, want %v", c.name, c.l, got, c.want)
		}
	}
}

// P5.2: Min by its words, of every small list of a grid and of pairs and triples of any paths, valid or not.
func TestMinByItsWords(t *testing.T) {
	for _, l := range listsOf(pathsOf([]int{0, 1, 2}), 4) {
		checkMin(t, l)
	}
	for _, l := range listsOf(pathsOf([]int{math.MinInt, -1, 0, 1000000, 1000001, math.MaxInt}), 2) {
		checkMin(t, l)
	}
	for _, l := range listsOf(pathsOf([]int{math.MinInt, 0, math.MaxInt}), 3) {
		checkMin(t, l)
	}
	r := rand.New(rand.NewSource(6))
	for range 5000 {
		checkMin(t, randomList(r, 20))
	}
}

// P5.2: the limit of Each is none of Min.
func TestMinOfLongLists(t *testing.T) {
	for _, n := range []int{63, 64, 65, 100, 1000} {
		want := falling(n, 1)
		if got := Min(reversed(want)); !slices.Equal(got, want) {
			t.Errorf("Min of %d incomparable paths: got %d", n, len(got))
		}
		if got := Min(slices.Repeat(want[:1], n)); !slices.Equal(got, want[:1]) {
			t.Errorf("Min of one path %d times: got %v", n, got)
		}
	}
}

// P5.2: lists whose Each is written out; it is the same with both exchanged.
func TestEach(t *testing.T) {
	zero, one := []api.Path{by(0, 0)}, []api.Path{by(2, 3)}
	cases := []struct {
		name       string
		a, b, want []api.Path
		ok         bool
	}{
		{"none and none", nil, nil, nil, true},
		{"empty and none", []api.Path{}, nil, nil, true},
		{"none and one", nil, one, nil, true},
		{"empty and one", []api.Path{}, one, nil, true},
		{"one and zero", one, zero, one, true},
		{"one and itself", one, one, []api.Path{by(4, 6)}, true},
		{"one more than once", slices.Repeat(one, 3), slices.Repeat(one, 2), []api.Path{by(4, 6)}, true},
		{"sums are ordered", []api.Path{by(5, 0), by(0, 5)}, []api.Path{by(1, 0), by(0, 1)}, []api.Path{by(0, 6), by(1, 5), by(5, 1), by(6, 0)}, true},
		{"two sums are the same", []api.Path{by(0, 1), by(1, 0)}, []api.Path{by(1, 0), by(0, 1)}, []api.Path{by(0, 2), by(1, 1), by(2, 0)}, true},
		{"comparable ones go", []api.Path{by(0, 1), by(1, 1), by(0, 2)}, []api.Path{by(3, 0), by(3, 3)}, []api.Path{by(3, 1)}, true},
		{"the greatest sum", []api.Path{by(most, 0)}, []api.Path{by(0, most)}, []api.Path{by(most, most)}, true},
		{"the only sum is too great", []api.Path{by(most, 0)}, []api.Path{by(1, 0)}, nil, true},
		{"all sums are too great", []api.Path{by(most, 0), by(0, most)}, []api.Path{by(1, 1), by(2, 1)}, nil, true},
		{"some sums are too great", []api.Path{by(most, 0), by(0, most)}, []api.Path{by(1, 0), by(5, 5)}, []api.Path{by(1, most)}, true},
		{"one of four is too great", []api.Path{by(most, 0), by(0, 7)}, []api.Path{by(0, 0), by(1, 0)}, []api.Path{by(0, 7), by(most, 0)}, true},
		{"epoch -1", []api.Path{by(-1, 0)}, zero, nil, false},
		{"round -1", []api.Path{by(0, -1)}, zero, nil, false},
		{"epoch 1000001", []api.Path{by(1000001, 0)}, zero, nil, false},
		{"round 1000001", []api.Path{by(0, 1000001)}, zero, nil, false},
		{"the type's least", []api.Path{by(math.MinInt, math.MinInt)}, zero, nil, false},
		{"the type's greatest", []api.Path{by(math.MaxInt, math.MaxInt)}, zero, nil, false},
		{"the sum of one that is not valid is", []api.Path{by(-1, 5)}, []api.Path{by(1, 0)}, nil, false},
		{"not valid, and no paths", []api.Path{by(-1, 0)}, nil, nil, false},
		{"not valid, first of some", []api.Path{by(0, -1), by(1, 1), by(2, 0)}, one, nil, false},
		{"not valid, last of some", []api.Path{by(1, 1), by(2, 0), by(0, 1000001)}, one, nil, false},
		{"not valid, and covered by another one", []api.Path{by(0, 0), by(1000001, 5)}, one, nil, false},
		{"neither valid", []api.Path{by(-1, 0)}, []api.Path{by(0, 1000001)}, nil, false},
	}
	for _, c := range cases {
		if got, ok := Each(c.a, c.b); !slices.Equal(got, c.want) || ok != c.ok {
			t.Errorf("%s: Each(%v, %v): got %v %v, want %v %v", c.name, c.a, c.b, got, ok, c.want, c.ok)
		}
		if got, ok := Each(c.b, c.a); !slices.Equal(got, c.want) || ok != c.ok {
			t.Errorf("%s, exchanged: Each(%v, %v): got %v %v, want %v %v", c.name, c.b, c.a, got, ok, c.want, c.ok)
		}
	}
}

// P5.2: 64 paths are taken on either side, and 65 on neither, whatever they are.
func TestEachOf64And65(t *testing.T) {
	zero := []api.Path{by(0, 0)}
	const n = longest + 1
	cases := []struct {
		name string
		l    []api.Path
	}{
		{"incomparable", falling(n, 1)},
		{"the same", slices.Repeat(zero, n)},
		{"comparable", pathsOf([]int{0, 1, 2, 3, 4, 5, 6, 7, 8})[:n]},
		{"all sums too great", slices.Repeat([]api.Path{by(most, most)}, n)},
	}
	for _, c := range cases {
		for _, other := range [][]api.Path{nil, zero, {by(1, 1)}} {
			checkEach(t, c.l[:longest], other)
			checkEach(t, other, c.l[:longest])
			if got, ok := Each(c.l[:longest], other); !ok {
				t.Errorf("%s: 64 of them and %v: got %v %v", c.name, other, got, ok)
			}
			if got, ok := Each(c.l, other); len(got) != 0 || ok {
				t.Errorf("%s: 65 of them and %v: got %v %v", c.name, other, got, ok)
			}
			if got, ok := Each(other, c.l); len(got) != 0 || ok {
				t.Errorf("%s: %v and 65 of them: got %v %v", c.name, other, got, ok)
			}
		}
	}
	same := slices.Repeat([]api.Path{by(2, 3)}, n)
	if got, ok := Each(same[:longest], same[:longest]); !slices.Equal(got, []api.Path{by(4, 6)}) || !ok {
		t.Errorf("64 and 64: got %v %v", got, ok)
	}
	if got, ok := Each(same, same); len(got) != 0 || ok {
		t.Errorf("65 and 65: got %v %v", got, ok)
	}
}

// P5.2: 64 minimal sums are given, 65 and more are not.
func TestEachOfManySums(t *testing.T) {
	// The sums of falling(m, 1) and of falling(n, m) are falling(m * n, 1).
	for _, c := range []struct{ m, n int }{{1, 64}, {64, 1}, {8, 8}, {2, 32}, {9, 7}, {13, 5}, {5, 13}, {2, 33}, {9, 8}, {64, 2}, {64, 64}} {
		sums := c.m * c.n
		got, ok := Each(falling(c.m, 1), reversed(falling(c.n, c.m)))
		if sums <= longest && (!slices.Equal(got, falling(sums, 1)) || !ok) {
			t.Errorf("%d by %d: got %v %v", c.m, c.n, got, ok)
		}
		if sums > longest && (len(got) != 0 || ok) {
			t.Errorf("%d by %d: got %v %v", c.m, c.n, got, ok)
		}
	}
	// 4096 different sums, of which one is minimal.
	var rising []api.Path
	for i := range longest {
		rising = append(rising, by(i, i))
	}
	high := reversed(falling(longest, 64))
	high[7] = by(0, 0)
	if got, ok := Each(rising, high); !slices.Equal(got, []api.Path{by(0, 0)}) || !ok {
		t.Errorf("one minimal sum: got %v %v", got, ok)
	}
	// The sums would be 65, but the last epoch, or the first two rounds, are too great.
	epochs, rounds := falling(5, 13), falling(5, 13)
	for i := range 5 {
		epochs[i].Epoch += most - 63
		rounds[i].Round += most - 62
	}
	if got, ok := Each(falling(13, 1), epochs); len(got) != 64 || !ok {
		t.Errorf("64 of 65 sums: got %d %v", len(got), ok)
	}
	if got, ok := Each(falling(13, 1), rounds); len(got) != 63 || !ok {
		t.Errorf("63 of 65 sums: got %d %v", len(got), ok)
	}
}

// P5.2: Each by its words, for all pairs of small lists and for random ones.
func TestEachByItsWords(t *testing.T) {
	lists := listsOf(pathsOf([]int{0, 1, 999999}), 2)
	lists = append(lists, listsOf([]api.Path{by(0, -1), by(0, 1), by(1, 0), by(1000000, 1), by(1000001, 0)}, 2)...)
	for _, a := range lists {
		for _, b := range lists {
			checkEach(t, a, b)
		}
	}
	r := rand.New(rand.NewSource(7))
	for range 3000 {
		a, b := randomList(r, 16), randomList(r, 16)
		if len(a) > 0 && r.Intn(8) == 0 {
			a[r.Intn(len(a))] = by(ends[r.Intn(len(ends))], ends[r.Intn(len(ends))])
		}
		checkEach(t, a, b)
	}
	for range 30 {
		checkEach(t, randomList(r, 67), randomList(r, 67))
	}
}

// P5.3: Then is commutative and associative, a sum that is too great among them, and the zero path is its neutral element.
func TestThenIsAMonoid(t *testing.T) {
	list := pathsOf([]int{-1, 0, 1, 499999, 500000, 999999, 1000000, 1000001})
	for _, p := range list {
		left, leftOK := Then(by(0, 0), p)
		right, rightOK := Then(p, by(0, 0))
		if leftOK != Right(p) || rightOK != Right(p) || leftOK && (left != p || right != p) {
			t.Errorf("%v and zero: got %v %v and %v %v", p, left, leftOK, right, rightOK)
		}
		for _, q := range list {
			pq, pqOK := Then(p, q)
			if qp, qpOK := Then(q, p); pq != qp || pqOK != qpOK {
				t.Errorf("%v and %v: got %v %v and %v %v", p, q, pq, pqOK, qp, qpOK)
			}
			for _, r := range list {
				if first, last := thenBehind(p, q, r), thenAhead(p, q, r); first != last {
					t.Errorf("%v, %v and %v: got %v and %v", p, q, r, first, last)
				}
			}
		}
	}
}

// result is what Then answers.
type result struct {
	p  api.Path
	ok bool
}

// thenBehind is p and q, and r behind both.
func thenBehind(p, q, r api.Path) result {
	pq, ok := Then(p, q)
	if !ok {
		return result{}
	}
	sum, ok := Then(pq, r)
	return result{sum, ok}
}

// thenAhead is q and r, and p ahead of both.
func thenAhead(p, q, r api.Path) result {
	qr, ok := Then(q, r)
	if !ok {
		return result{}
	}
	sum, ok := Then(p, qr)
	return result{sum, ok}
}

// P5.3: Each of the minimal paths is the same as Each of all paths.
func TestEachOfTheMinimalPaths(t *testing.T) {
	check := func(a, b []api.Path) {
		t.Helper()
		all, allOK := Each(a, b)
		for _, pair := range [][2][]api.Path{{Min(a), b}, {a, Min(b)}, {Min(a), Min(b)}} {
			if got, ok := Each(pair[0], pair[1]); !slices.Equal(got, all) || ok != allOK {
				t.Errorf("Each(%v, %v): got %v %v, but of %v and %v %v %v", pair[0], pair[1], got, ok, a, b, all, allOK)
			}
		}
		if !slices.Equal(Min(all), all) {
			t.Errorf("Each(%v, %v): got %v, of which some are not minimal", a, b, all)
		}
	}
	lists := listsOf(pathsOf([]int{0, 1, 999999, 1000000}), 2)
	for _, a := range lists {
		for _, b := range lists {
			check(a, b)
		}
	}
	r := rand.New(rand.NewSource(8))
	for range 1000 {
		check(randomList(r, 65), randomList(r, 65))
	}
	// The minimal sums are 65, and each list has paths that are not minimal.
	check(append(falling(13, 1), by(20, 20)), append(falling(5, 13), by(70, 70), by(0, 99)))
}

// spare is a copy of l whose array goes on with a path that no call may touch.
func spare(l []api.Path) []api.Path {
	whole := append(slices.Clone(l), by(77, 77), by(78, 78))
	return whole[:len(l)]
}

// sameSpare reports whether l, made by spare, is still the same as before, with what goes on behind it.
func sameSpare(l, before []api.Path) bool {
	return slices.Equal(l, before) && slices.Equal(l[:len(l)+2][len(l):], []api.Path{by(77, 77), by(78, 78)})
}

// R3: no argument is changed, and no result shares memory with an argument or with another result.
func TestArgumentsStayAsTheyAre(t *testing.T) {
	lists := [][]api.Path{nil, {by(3, 4)}, {by(0, 0)}, {by(2, 0), by(1, 1), by(2, 0), by(0, 2), by(3, 3)}, falling(8, 1), reversed(falling(64, 1)), falling(65, 1), {by(1, 1), by(-1, 0)}}
	scribble := func(l []api.Path) {
		for i := range l[:cap(l)] {
			l[:cap(l)][i] = by(-9, -9)
		}
	}
	for _, before := range lists {
		l := spare(before)
		first, second := Min(l), Min(l)
		scribble(first)
		if !sameSpare(l, before) {
			t.Errorf("Min changed %v to %v, or shares it", before, l)
		}
		if !slices.Equal(second, wantMin(before)) {
			t.Errorf("two results of Min(%v) share memory: got %v", before, second)
		}
		for _, other := range lists {
			a, b := spare(before), spare(other)
			first, _ := Each(a, b)
			second, _ := Each(a, b)
			scribble(first)
			if !sameSpare(a, before) || !sameSpare(b, other) {
				t.Errorf("Each changed %v and %v to %v and %v, or shares them", before, other, a, b)
			}
			if want, _ := wantEach(before, other); !slices.Equal(second, want) {
				t.Errorf("two results of Each(%v, %v) share memory: got %v", before, other, second)
			}
		}
	}
}

// R3: what was given for arguments may be changed after the call.
func TestResultsStayAsTheyAre(t *testing.T) {
	a, b := []api.Path{by(1, 0), by(0, 1)}, []api.Path{by(0, 0)}
	least := Min(a)
	sums, _ := Each(a, b)
	a[0], a[1], b[0] = by(8, 8), by(9, 9), by(7, 7)
	want := []api.Path{by(0, 1), by(1, 0)}
	if !slices.Equal(least, want) || !slices.Equal(sums, want) {
		t.Errorf("got %v and %v", least, sums)
	}
}

// P0: lists far longer than the layers above make any.
func TestGreatLists(t *testing.T) {
	const n = 200000
	l := falling(n, 1)
	if got := Min(reversed(l)); !slices.Equal(got, l) {
		t.Errorf("Min of %d incomparable paths: got %d", n, len(got))
	}
	if got, ok := Each(l, l); len(got) != 0 || ok {
		t.Errorf("Each of %d paths: got %d %v", n, len(got), ok)
	}
}

// P0, P5.1 to P5.3: any arguments at all.
func FuzzPaths(f *testing.F) {
	f.Add(0, 1, 2, 0, 1, 0, uint8(1))
	f.Add(-1, 0, 1000000, 1000001, 0, 0, uint8(2))
	f.Add(math.MinInt, math.MaxInt, math.MaxInt, math.MinInt, 1, 1, uint8(0))
	f.Add(500000, 500000, 500000, 500001, 1000000, 0, uint8(64))
	f.Fuzz(func(t *testing.T, pe, pr, qe, qr, re, rr int, n uint8) {
		p, q, r := by(pe, pr), by(qe, qr), by(re, rr)
		if Right(p) != valid(p) {
			t.Errorf("Right(%v): got %v", p, Right(p))
		}
		checkThen(t, p, q)
		checkThen(t, q, p)
		checkMin(t, []api.Path{p, q, r, p})
		checkEach(t, []api.Path{p, q}, []api.Path{r, p})
		checkEach(t, slices.Repeat([]api.Path{p}, int(n)), []api.Path{q, r})
		if first, last := thenBehind(p, q, r), thenAhead(p, q, r); first != last {
			t.Errorf("%v, %v and %v: got %v and %v", p, q, r, first, last)
		}
	})
}
