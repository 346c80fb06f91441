package bag

import (
	"math"
	"math/big"
	"math/rand"
	"slices"
	"testing"

	"garboard/api"
)

// most is the limit of a count, by its number, so that no test leans on the constant.
const most = 1000000000

// ends are parts that are valid, that just aren't, and the type's own ends.
var ends = []int{math.MinInt, math.MinInt + 1, -1000001, -1000000, -1, 0, 1, 999999, 1000000, 1000001, math.MaxInt - 1, math.MaxInt}

// add is a call of Add.
type add struct {
	t api.Stamp
	n int
}

func at(epoch, round int) api.Stamp { return api.Stamp{Epoch: epoch, Round: round} }

func count(epoch, round, n int) api.Count { return api.Count{T: at(epoch, round), N: n} }

// valid, lessEq and ahead are in the document's words, so that no test leans on packages stamp and anti.
func valid(t api.Stamp) bool {
	return t.Epoch >= 0 && t.Epoch <= 1000000 && t.Round >= 0 && t.Round <= 1000000
}

func lessEq(a, b api.Stamp) bool { return a.Epoch <= b.Epoch && a.Round <= b.Round }

func ahead(a, b api.Stamp) bool {
	return a.Epoch < b.Epoch || a.Epoch == b.Epoch && a.Round < b.Round
}

// plain is a bag by the document's words: its counts, in increasing order of their timestamps, zeros among them.
type plain []api.Count

// wantAdd adds to it as Add should.
func (p *plain) wantAdd(t api.Stamp, n int) api.Errno {
	if !valid(t) {
		return api.ErrArg
	}
	i := 0
	for i < len(*p) && ahead((*p)[i].T, t) {
		i++
	}
	if i == len(*p) || (*p)[i].T != t {
		*p = slices.Insert(*p, i, api.Count{T: t})
	}
	sum := new(big.Int).Add(big.NewInt(int64((*p)[i].N)), big.NewInt(int64(n)))
	if sum.CmpAbs(big.NewInt(most)) > 0 {
		return api.ErrOver
	}
	(*p)[i].N += n
	return api.OK
}

// and is p with the count of t greater by n.
func (p plain) and(t api.Stamp, n int) plain {
	p = slices.Clone(p)
	p.wantAdd(t, n)
	return p
}

func (p plain) wantAll() []api.Count {
	var all []api.Count
	for _, c := range p {
		if c.N != 0 {
			all = append(all, c)
		}
	}
	return all
}

// wantFrontier holds each timestamp whose count is positive against all others.
func (p plain) wantFrontier() []api.Stamp {
	var least []api.Stamp
	for _, c := range p {
		if c.N > 0 && !slices.ContainsFunc(p, func(d api.Count) bool { return d.N > 0 && d.T != c.T && lessEq(d.T, c.T) }) {
			least = append(least, c.T)
		}
	}
	return least
}

func (p plain) wantLacks() bool {
	return slices.ContainsFunc(p, func(c api.Count) bool { return c.N < 0 })
}

// check holds all results of b against those of p.
func check(t *testing.T, what string, b *Bag, p plain) {
	t.Helper()
	if got, want := b.All(), p.wantAll(); !slices.Equal(got, want) {
		t.Errorf("%s: All: got %v, want %v", what, got, want)
	}
	if got, want := b.Frontier(), p.wantFrontier(); !slices.Equal(got, want) {
		t.Errorf("%s: Frontier: got %v, want %v", what, got, want)
	}
	if got, want := b.Lacks(), p.wantLacks(); got != want {
		t.Errorf("%s: Lacks: got %v", what, got)
	}
	for _, c := range p {
		if got := b.Of(c.T); got != c.N {
			t.Errorf("%s: Of(%v): got %d, want %d", what, c.T, got, c.N)
		}
	}
}

// checkAdds adds one by one to a new bag, and holds each result against the words of P4.1 and P4.2.
func checkAdds(t *testing.T, what string, adds []add) {
	t.Helper()
	b, p := New(), plain{}
	for _, a := range adds {
		if got, want := b.Add(a.t, a.n), p.wantAdd(a.t, a.n); got != want {
			t.Errorf("%s: Add(%v, %d): got %d, want %d", what, a.t, a.n, got, want)
		}
		check(t, what, b, p)
	}
}

// bagOf is a new bag with these counts; each of them must be taken.
func bagOf(t *testing.T, counts ...api.Count) *Bag {
	t.Helper()
	b := New()
	for _, c := range counts {
		if got := b.Add(c.T, c.N); got != api.OK {
			t.Fatalf("Add(%v, %d): got %d", c.T, c.N, got)
		}
	}
	return b
}

// wantAll checks All of a bag.
func wantAll(t *testing.T, what string, b *Bag, want ...api.Count) {
	t.Helper()
	if got := b.All(); !slices.Equal(got, want) {
		t.Errorf("%s: All: got %v, want %v", what, got, want)
	}
}

// stampsOf are all timestamps with these parts, in increasing order if the parts are.
func stampsOf(parts []int) []api.Stamp {
	var list []api.Stamp
	for _, e := range parts {
		for _, r := range parts {
			list = append(list, at(e, r))
		}
	}
	return list
}

// ordersOf are all orders of the numbers below n.
func ordersOf(n int) [][]int {
	if n == 0 {
		return [][]int{nil}
	}
	var orders [][]int
	for _, order := range ordersOf(n - 1) {
		for i := range n {
			orders = append(orders, slices.Insert(slices.Clone(order), i, n-1))
		}
	}
	return orders
}

// The chapter's example, and what it says along the way.
func TestExample(t *testing.T) {
	b := bagOf(t, count(1, 0, 2), count(0, 1, 1))
	wantAll(t, "before the last Add", b, count(0, 1, 1), count(1, 0, 2))
	if got := b.Frontier(); !slices.Equal(got, []api.Stamp{at(0, 1), at(1, 0)}) {
		t.Errorf("before the last Add: Frontier: got %v", got)
	}
	if got := b.Add(at(1, 0), -2); got != api.OK {
		t.Errorf("the last Add: got %d", got)
	}
	wantAll(t, "after it", b, count(0, 1, 1))
	if got := b.Frontier(); !slices.Equal(got, []api.Stamp{at(0, 1)}) {
		t.Errorf("after it: Frontier: got %v", got)
	}
	if b.Of(at(1, 0)) != 0 || b.Of(at(0, 1)) != 1 || b.Lacks() {
		t.Errorf("after it: Of: got %d and %d, Lacks: %v", b.Of(at(1, 0)), b.Of(at(0, 1)), b.Lacks())
	}
}

// P4.1: in a new bag each timestamp has the count 0.
func TestNew(t *testing.T) {
	b := New()
	if b == nil {
		t.Fatal("no bag")
	}
	for _, s := range stampsOf(ends) {
		if got := b.Of(s); got != 0 {
			t.Errorf("Of(%v): got %d", s, got)
		}
	}
	check(t, "new", b, nil)
	b.Empty()
	check(t, "new, and emptied", b, nil)
}

// P4.1: what is in one bag is not in another one.
func TestBagsAreApart(t *testing.T) {
	one, other := bagOf(t, count(1, 1, 3)), New()
	check(t, "the other one", other, nil)
	other.Add(at(1, 1), -4)
	wantAll(t, "the one", one, count(1, 1, 3))
	one.Empty()
	wantAll(t, "the other one", other, count(1, 1, -4))
}

// P4.1: a timestamp must be valid, in both of its parts; for one that isn't nothing is counted, however often.
func TestAddToAnyTimestamp(t *testing.T) {
	for _, s := range stampsOf(ends) {
		for _, n := range []int{1, -1, 0, most, -most} {
			b := bagOf(t, count(3, 4, 5))
			want, taken := api.OK, n
			if !valid(s) {
				want, taken = api.ErrArg, 0
			}
			if got := b.Add(s, n); got != want {
				t.Errorf("Add(%v, %d): got %d, want %d", s, n, got, want)
			}
			if got := b.Of(s); got != taken {
				t.Errorf("Add(%v, %d): Of is %d", s, n, got)
			}
			check(t, "with one more", b, plain{}.and(s, taken).and(at(3, 4), 5))
		}
	}
}

// P4.1, P0: of both errors ErrArg comes first.
func TestErrArgComesFirst(t *testing.T) {
	for _, s := range stampsOf(ends) {
		for _, n := range []int{most + 1, -most - 1, math.MaxInt, math.MinInt} {
			b, want := New(), api.ErrOver
			if !valid(s) {
				want = api.ErrArg
			}
			if got := b.Add(s, n); got != want {
				t.Errorf("Add(%v, %d): got %d, want %d", s, n, got, want)
			}
			check(t, "after an error", b, nil)
		}
	}
}

// P4.1: counts just within and just beyond the limits; beyond them nothing is changed.
func TestLimits(t *testing.T) {
	s := at(1000000, 0)
	cases := []struct {
		was, n int
		want   api.Errno
	}{
		{0, most - 1, api.OK}, {0, most, api.OK}, {0, most + 1, api.ErrOver},
		{0, -most + 1, api.OK}, {0, -most, api.OK}, {0, -most - 1, api.ErrOver},
		{1, most - 1, api.OK}, {1, most, api.ErrOver},
		{-1, -most + 1, api.OK}, {-1, -most, api.ErrOver},
		{-1, most + 1, api.OK}, {-1, most + 2, api.ErrOver},
		{1, -most - 1, api.OK}, {1, -most - 2, api.ErrOver},
		{most, 0, api.OK}, {most, 1, api.ErrOver}, {most, -1, api.OK},
		{-most, 0, api.OK}, {-most, -1, api.ErrOver}, {-most, 1, api.OK},
		{most - 1, 1, api.OK}, {most - 1, 2, api.ErrOver},
		{-most + 1, -1, api.OK}, {-most + 1, -2, api.ErrOver},
		{most, -most, api.OK}, {-most, most, api.OK},
		{most, -2 * most, api.OK}, {most, -2*most - 1, api.ErrOver},
		{-most, 2 * most, api.OK}, {-most, 2*most + 1, api.ErrOver},
		{most, most, api.ErrOver}, {-most, -most, api.ErrOver},
	}
	for _, c := range cases {
		b, p := New(), plain{}.and(at(0, 7), 1).and(s, c.was)
		for _, a := range p {
			b.Add(a.T, a.N)
		}
		if got := b.Add(s, c.n); got != c.want {
			t.Errorf("%d and %d: got %d, want %d", c.was, c.n, got, c.want)
		}
		if c.want == api.OK {
			p = p.and(s, c.n)
		}
		check(t, "behind it", b, p)
	}
}

// P4.1: the least and the greatest values of n's type do not wrap round, whatever the count is.
func TestValuesOfTheType(t *testing.T) {
	far := []int{
		math.MinInt, math.MinInt + 1, math.MinInt + most - 1, math.MinInt + most, math.MinInt + most + 1, math.MinInt + 2*most,
		math.MaxInt, math.MaxInt - 1, math.MaxInt - most - 1, math.MaxInt - most, math.MaxInt - most + 1, math.MaxInt - 2*most,
	}
	for _, was := range []int{-most, -most + 1, -1, 0, 1, most - 1, most} {
		for _, n := range far {
			b, p := New(), plain{}.and(at(2, 2), was)
			b.Add(at(2, 2), was)
			// How far these are beyond the limits hangs on the size of the type.
			if got, want := b.Add(at(2, 2), n), p.wantAdd(at(2, 2), n); got != want {
				t.Errorf("%d and %d: got %d, want %d", was, n, got, want)
			}
			check(t, "behind it", b, p)
		}
	}
	for _, n := range []int{math.MinInt, math.MaxInt} {
		b := New()
		if got := b.Add(at(2, 2), n); got != api.ErrOver {
			t.Errorf("%d: got %d", n, got)
		}
		check(t, "behind it", b, nil)
	}
}

// P4.1: a single timestamp's count is limited, not that of all of them.
func TestLimitIsOfOneTimestamp(t *testing.T) {
	b := bagOf(t, count(0, 0, most), count(0, 1, most), count(1, 0, -most), count(1, 1, -most))
	if got := b.Add(at(0, 2), most); got != api.OK {
		t.Errorf("one more timestamp: got %d", got)
	}
	wantAll(t, "all of them", b, count(0, 0, most), count(0, 1, most), count(0, 2, most), count(1, 0, -most), count(1, 1, -most))
}

// P4.1 to P4.3: counts through 0 and back, step by step.
func TestThroughZero(t *testing.T) {
	cases := []struct {
		name  string
		steps []int
	}{
		{"up, down and up", []int{1, -1, 1}},
		{"down, up and down", []int{-1, 1, -1}},
		{"over 0 in one step", []int{2, -5, 5, -2}},
		{"by the limits", []int{most, -most, -most, most, 1}},
		{"from limit to limit", []int{most, -2 * most, 2 * most, -most}},
		{"0 added to nothing", []int{0, 0, 1, 0, -1, 0}},
		{"refused at 0", []int{1, -1, most + 1, -most - 1, 1}},
	}
	for _, c := range cases {
		adds := []add{{t: at(4, 1), n: 2}}
		for _, n := range c.steps {
			adds = append(adds, add{t: at(1, 4), n: n}, add{t: at(1, 5), n: -n})
		}
		checkAdds(t, c.name, adds)
	}
}

// P4.3: what is added and subtracted again is not there, nor is it kept.
func TestNothingIsLeft(t *testing.T) {
	b := New()
	for _, n := range []int{1, -1, 7, most, -most, 0} {
		for _, s := range stampsOf([]int{0, 1, 500000, 1000000}) {
			b.Add(s, n)
			b.Add(s, -n)
		}
		check(t, "subtracted again", b, nil)
		if len(b.counts) != 0 {
			t.Errorf("%d times: %v is kept", n, b.counts)
		}
	}
	b = bagOf(t, count(0, 0, 3), count(2, 0, 3))
	b.Add(at(1, 0), most+1)
	b.Add(at(-1, 0), 1)
	b.Add(at(1, 1), 0)
	b.Empty()
	if len(b.counts) != 0 {
		t.Errorf("emptied: %v is kept", b.counts)
	}
}

// P4.2: All, Frontier and Lacks of bags that are written out.
func TestResults(t *testing.T) {
	cases := []struct {
		name     string
		counts   []api.Count
		all      []api.Count
		frontier []api.Stamp
		lacks    bool
	}{
		{"none", nil, nil, nil, false},
		{"one", []api.Count{count(3, 4, 2)}, []api.Count{count(3, 4, 2)}, []api.Stamp{at(3, 4)}, false},
		{"one lacking", []api.Count{count(3, 4, -2)}, []api.Count{count(3, 4, -2)}, nil, true},
		{"one twice", []api.Count{count(3, 4, 2), count(3, 4, 5)}, []api.Count{count(3, 4, 7)}, []api.Stamp{at(3, 4)}, false},
		{"a chain", []api.Count{count(2, 2, 1), count(0, 0, 1), count(1, 1, 1)},
			[]api.Count{count(0, 0, 1), count(1, 1, 1), count(2, 2, 1)}, []api.Stamp{at(0, 0)}, false},
		{"incomparable", []api.Count{count(2, 0, 1), count(0, 2, 3), count(1, 1, 2)},
			[]api.Count{count(0, 2, 3), count(1, 1, 2), count(2, 0, 1)}, []api.Stamp{at(0, 2), at(1, 1), at(2, 0)}, false},
		{"the least one is lacking", []api.Count{count(0, 0, -1), count(1, 1, 1)},
			[]api.Count{count(0, 0, -1), count(1, 1, 1)}, []api.Stamp{at(1, 1)}, true},
		{"the least one is lacking, the greatest is covered", []api.Count{count(2, 2, 9), count(0, 0, -9), count(1, 1, 1)},
			[]api.Count{count(0, 0, -9), count(1, 1, 1), count(2, 2, 9)}, []api.Stamp{at(1, 1)}, true},
		{"the last one is lacking", []api.Count{count(0, 0, 1), count(5, 5, -1)},
			[]api.Count{count(0, 0, 1), count(5, 5, -1)}, []api.Stamp{at(0, 0)}, true},
		{"all are lacking", []api.Count{count(1, 0, -1), count(0, 1, -1)},
			[]api.Count{count(0, 1, -1), count(1, 0, -1)}, nil, true},
		{"the least one is gone", []api.Count{count(0, 0, 2), count(1, 1, 1), count(0, 0, -2)},
			[]api.Count{count(1, 1, 1)}, []api.Stamp{at(1, 1)}, false},
		{"the lacking one is made up for", []api.Count{count(0, 0, -2), count(1, 1, 1), count(0, 0, 2)},
			[]api.Count{count(1, 1, 1)}, []api.Stamp{at(1, 1)}, false},
		{"epochs first", []api.Count{count(1, 0, 1), count(0, 1000000, 1), count(1000000, 0, 1), count(0, 999999, 1)},
			[]api.Count{count(0, 999999, 1), count(0, 1000000, 1), count(1, 0, 1), count(1000000, 0, 1)},
			[]api.Stamp{at(0, 999999), at(1, 0)}, false},
	}
	for _, c := range cases {
		b := bagOf(t, c.counts...)
		wantAll(t, c.name, b, c.all...)
		if got := b.Frontier(); !slices.Equal(got, c.frontier) {
			t.Errorf("%s: Frontier: got %v, want %v", c.name, got, c.frontier)
		}
		if got := b.Lacks(); got != c.lacks {
			t.Errorf("%s: Lacks: got %v", c.name, got)
		}
	}
}

// P4.2: Of returns 0 for what was never added, valid or not, and for neighbours of what was.
func TestOfOthers(t *testing.T) {
	b := bagOf(t, count(5, 5, 1), count(0, 0, -3), count(1000000, 1000000, most))
	others := append(stampsOf([]int{math.MinInt, -1, 1, 4, 6, 999999, 1000001, math.MaxInt}), at(5, 0), at(0, 5), at(1000000, 0))
	for _, s := range others {
		if got := b.Of(s); got != 0 {
			t.Errorf("Of(%v): got %d", s, got)
		}
	}
	if b.Of(at(5, 5)) != 1 || b.Of(at(0, 0)) != -3 || b.Of(at(1000000, 1000000)) != most {
		t.Errorf("Of: got %d, %d and %d", b.Of(at(5, 5)), b.Of(at(0, 0)), b.Of(at(1000000, 1000000)))
	}
}

// P4.2: asking changes nothing, Of included.
func TestAskingChangesNothing(t *testing.T) {
	b := bagOf(t, count(2, 1, 1), count(1, 2, -1))
	for range 3 {
		for _, s := range stampsOf(ends) {
			b.Of(s)
		}
		b.Frontier()
		b.Lacks()
		wantAll(t, "asked", b, count(1, 2, -1), count(2, 1, 1))
	}
	if len(b.counts) != 2 {
		t.Errorf("asked: %v is kept", b.counts)
	}
}

// P4.1: Empty sets all counts to 0, whatever they are; later Adds count from there.
func TestEmpty(t *testing.T) {
	b := bagOf(t, count(0, 0, most), count(1, 2, -most), count(2, 1, 1))
	b.Empty()
	check(t, "emptied", b, plain{count(0, 0, 0), count(1, 2, 0), count(2, 1, 0)})
	b.Empty()
	check(t, "emptied twice", b, nil)
	for _, c := range []api.Count{count(0, 0, 1), count(1, 2, most), count(1, 1, -1)} {
		if got := b.Add(c.T, c.N); got != api.OK {
			t.Errorf("Add(%v, %d) after Empty: got %d", c.T, c.N, got)
		}
	}
	check(t, "added after Empty", b, plain{count(0, 0, 1), count(1, 1, -1), count(1, 2, most), count(2, 1, 0)})
	if got := b.Add(at(1, 2), 1); got != api.ErrOver {
		t.Errorf("too many after Empty: got %d", got)
	}
}

// P4.3: the same Adds in all orders.
func TestAllOrders(t *testing.T) {
	adds := []api.Count{count(1, 0, 2), count(0, 1, 1), count(1, 0, -2), count(2, 2, -1), count(0, 1, 3), count(2, 2, 2), count(3, 0, -4)}
	for _, order := range ordersOf(len(adds)) {
		b := New()
		for _, i := range order {
			if got := b.Add(adds[i].T, adds[i].N); got != api.OK {
				t.Fatalf("%v: Add(%v, %d): got %d", order, adds[i].T, adds[i].N, got)
			}
		}
		check(t, "in another order", b, plain{count(0, 1, 4), count(1, 0, 0), count(2, 2, 1), count(3, 0, -4)})
	}
}

// P4.3: of many Adds, near the limits too, those that returned OK in other orders as well.
func TestManyOrders(t *testing.T) {
	r := rand.New(rand.NewSource(6))
	for range 300 {
		one := New()
		var taken []add
		for range 40 {
			a := add{t: at(r.Intn(4)-r.Intn(2), r.Intn(4)), n: []int{1, -1, 3, -3, most, -most, most - 2}[r.Intn(7)]}
			if one.Add(a.t, a.n) == api.OK {
				taken = append(taken, a)
			}
		}
		r.Shuffle(len(taken), func(i, j int) { taken[i], taken[j] = taken[j], taken[i] })
		other, all := New(), true
		for _, a := range taken {
			all = other.Add(a.t, a.n) == api.OK && all
		}
		if all && (!slices.Equal(one.All(), other.All()) || !slices.Equal(one.Frontier(), other.Frontier()) || one.Lacks() != other.Lacks()) {
			t.Errorf("%v: got %v and %v", taken, one.All(), other.All())
		}
	}
}

// P4.1 to P4.3: many Adds of all kinds, each result by the document's words.
func TestManyAdds(t *testing.T) {
	r := rand.New(rand.NewSource(7))
	amounts := []int{0, 1, 1, 1, -1, -1, -1, 2, -2, 3, -4, most, -most, most - 1, 2 * most, -2 * most, most + 1, math.MaxInt, math.MinInt}
	part := func() int {
		if r.Intn(12) == 0 {
			return ends[r.Intn(len(ends))]
		}
		return r.Intn(5)
	}
	for range 60 {
		adds := make([]add, 100)
		for i := range adds {
			adds[i] = add{t: at(part(), part()), n: amounts[r.Intn(len(amounts))]}
		}
		checkAdds(t, "many", adds)
	}
}

// P4.3: Frontier covers each timestamp with a positive count, and consists of such ones.
func TestFrontierCovers(t *testing.T) {
	r := rand.New(rand.NewSource(8))
	for range 500 {
		b := New()
		for range r.Intn(20) {
			b.Add(at(r.Intn(9), r.Intn(9)), r.Intn(9)-4)
		}
		front := b.Frontier()
		for _, s := range stampsOf([]int{0, 1, 2, 3, 4, 5, 6, 7, 8}) {
			covered := slices.ContainsFunc(front, func(f api.Stamp) bool { return lessEq(f, s) })
			if b.Of(s) > 0 && !covered {
				t.Errorf("%v: Frontier %v does not cover %v", b.All(), front, s)
			}
		}
		for _, f := range front {
			if b.Of(f) <= 0 {
				t.Errorf("%v: Frontier %v has %v, which isn't there", b.All(), front, f)
			}
		}
	}
}

// R4: a result does not depend on how the map is gone through, nor on how often it is asked for.
func TestResultsRepeat(t *testing.T) {
	one, other := New(), New()
	const n = 300
	for i := range n {
		one.Add(at(i, n-i), i%7-3)
		other.Add(at(n-1-i, i+1), (n-1-i)%7-3)
	}
	all, front, lacks := one.All(), one.Frontier(), one.Lacks()
	for i := 1; i < len(all); i++ {
		if !ahead(all[i-1].T, all[i].T) {
			t.Errorf("All has %v ahead of %v", all[i-1], all[i])
		}
	}
	for range 20 {
		for _, b := range []*Bag{one, other} {
			if !slices.Equal(b.All(), all) || !slices.Equal(b.Frontier(), front) || b.Lacks() != lacks {
				t.Fatal("another result for the same counts")
			}
		}
	}
}

// R3: what a caller writes into a result, or behind its end, reaches neither the bag nor another result.
func TestResultsAreTheCallersOwn(t *testing.T) {
	counts := []api.Count{count(0, 3, 1), count(1, 2, 2), count(2, 1, 3), count(3, 0, 4), count(4, 4, -5)}
	for n := range len(counts) + 1 {
		b, p := bagOf(t, counts[:n]...), plain(counts[:n])
		all, again := b.All(), b.All()
		front, frontAgain := b.Frontier(), b.Frontier()
		spoil(all, count(-77, -77, -77))
		spoil(front, at(-77, -77))
		if !slices.Equal(again, p.wantAll()) || !slices.Equal(frontAgain, p.wantFrontier()) {
			t.Errorf("of %d: other results became %v and %v", n, again, frontAgain)
		}
		check(t, "spoilt", b, p)
	}
}

// R3: a result stays as it was, whatever is done to the bag.
func TestResultsStay(t *testing.T) {
	b := bagOf(t, count(0, 3, 1), count(1, 2, 2))
	all, front := b.All(), b.Frontier()
	b.Add(at(0, 3), -1)
	b.Add(at(0, 0), 9)
	b.All()
	b.Frontier()
	b.Empty()
	b.Add(at(1, 2), -7)
	b.All()
	b.Frontier()
	if !slices.Equal(all, []api.Count{count(0, 3, 1), count(1, 2, 2)}) || !slices.Equal(front, []api.Stamp{at(0, 3), at(1, 2)}) {
		t.Errorf("became %v and %v", all, front)
	}
}

// spoil overwrites a list, up to the end of its memory.
func spoil[E any](l []E, by E) {
	l = l[:cap(l)]
	for i := range l {
		l[i] = by
	}
}

// P0: a bag far larger than the layers above make any.
func TestGreatBag(t *testing.T) {
	const n = 100000
	b := New()
	for i := range n {
		b.Add(at(n-i, i), 1)
		b.Add(at(n-i, i+1), -1)
	}
	if all, front := b.All(), b.Frontier(); len(all) != 2*n || len(front) != n || !b.Lacks() {
		t.Errorf("All has %d, Frontier %d", len(all), len(front))
	}
	b.Empty()
	check(t, "emptied", b, nil)
}

// P0, P4.1 to P4.3: any calls at all; three bytes are a call: both parts of a timestamp, and how often.
func FuzzBag(f *testing.F) {
	f.Add([]byte{})
	f.Add([]byte{1, 0, 2, 0, 1, 1, 1, 0, 254})
	f.Add([]byte{1, 1, 100, 1, 1, 1, 1, 1, 101, 1, 1, 101, 255, 255, 1})
	f.Add([]byte{2, 3, 5, 3, 2, 104, 0, 0, 99, 2, 3, 105})
	part := func(n byte) int {
		if n < 240 {
			return int(n % 8)
		}
		return ends[int(n-240)%len(ends)]
	}
	amount := func(n byte) int {
		far := []int{most, -most, most - 1, 1 - most, math.MaxInt, math.MinInt, 2 * most, -2 * most}
		if n >= 100 && n < 108 {
			return far[n-100]
		}
		return int(int8(n))
	}
	f.Fuzz(func(t *testing.T, text []byte) {
		b, p := New(), plain{}
		for len(text) >= 3 {
			if s, n := at(part(text[0]), part(text[1])), amount(text[2]); text[2] == 99 {
				b.Empty()
				p = plain{}
			} else if got, want := b.Add(s, n), p.wantAdd(s, n); got != want {
				t.Errorf("Add(%v, %d): got %d, want %d", s, n, got, want)
			}
			check(t, "behind a call", b, p)
			text = text[3:]
		}
	})
}
