package blame

import (
	"math"
	"math/bits"
	"math/rand"
	"slices"
	"sync"
	"testing"

	"garboard/api"
)

// The limit and the errors, by their numbers, so that no test leans on the constants.
const (
	most = 7

	arg = api.Errno(1)
	old = api.Errno(12)
)

// ends are numbers around the numbers of workers, and the type's own ends.
var ends = []int{math.MinInt, math.MinInt + 1, -8, -7, -2, -1, 0, 1, 2, 3, 4, 5, 6, 7, 8, 9, 16, 64, 256, 257, math.MaxInt - 1, math.MaxInt}

// clusters are all n and f of which there is a blame.
var clusters = [][2]int{{1, 0}, {2, 0}, {3, 0}, {4, 0}, {5, 0}, {6, 0}, {7, 0}, {4, 1}, {5, 1}, {6, 1}, {7, 1}, {7, 2}}

// saying is that one worker accuses another one, or that whom's own fault is observed.
type saying struct {
	isFault  bool
	by, whom int
}

func accuse(by, whom int) saying { return saying{by: by, whom: whom} }
func fault(whom int) saying      { return saying{isFault: true, whom: whom} }

// call says it to a blame.
func (s saying) call(b *Blame) api.Errno {
	if s.isFault {
		return b.Fault(s.whom)
	}
	return b.Accuse(s.by, s.whom)
}

// plain is a blame by the document's words: all that was said and recorded, in its order.
type plain struct {
	n, f int
	all  []saying
}

// isWorker is that of the chapter's Words.
func (m *plain) isWorker(k int) bool { return k >= 0 && k <= m.n-1 }

// wantSay says it as Accuse and Fault should, by the words of P13.2.
func (m *plain) wantSay(s saying) api.Errno {
	switch {
	case !m.isWorker(s.whom), !s.isFault && (!m.isWorker(s.by) || s.by == s.whom):
		return arg
	case slices.Contains(m.all, s):
		return old
	}
	m.all = append(m.all, s)
	return 0
}

// wantBy is By by the words of P13.3.
func (m *plain) wantBy(whom int) []int {
	var all []int
	for by := range m.n {
		if slices.Contains(m.all, accuse(by, whom)) {
			all = append(all, by)
		}
	}
	return all
}

// wantIs is Is by the chapter's Words.
func (m *plain) wantIs(whom int) bool {
	return slices.Contains(m.all, fault(whom)) || len(m.wantBy(whom)) >= m.f+1
}

// wantGone is Gone by the words of P13.3.
func (m *plain) wantGone() []int {
	var all []int
	for whom := range m.n {
		if m.wantIs(whom) {
			all = append(all, whom)
		}
	}
	return all
}

// check holds all that a blame tells against m.
func check(t *testing.T, what string, b *Blame, m *plain) {
	t.Helper()
	if got, want := b.Gone(), m.wantGone(); !slices.Equal(got, want) {
		t.Errorf("%s: n %d, f %d: %v: Gone: got %v, want %v", what, m.n, m.f, m.all, got, want)
	}
	for _, whom := range ends {
		if got, want := b.Is(whom), m.wantIs(whom); got != want {
			t.Errorf("%s: n %d, f %d: %v: Is(%d): got %v", what, m.n, m.f, m.all, whom, got)
		}
		if got, want := b.By(whom), m.wantBy(whom); !slices.Equal(got, want) {
			t.Errorf("%s: n %d, f %d: %v: By(%d): got %v, want %v", what, m.n, m.f, m.all, whom, got, want)
		}
	}
}

// say says it, with the result that is expected, to the blame and to what it is held against.
func say(t *testing.T, what string, b *Blame, m *plain, s saying, want api.Errno) {
	t.Helper()
	if got := s.call(b); got != want {
		t.Errorf("%s: n %d, f %d: %v: %v: got %d, want %d", what, m.n, m.f, m.all, s, got, want)
	}
	if got := m.wantSay(s); got != want {
		t.Fatalf("%s: the test is wrong: %v: %d, not %d", what, s, got, want)
	}
	check(t, what, b, m)
}

// blameOf is a blame to which these were said, each of which must be recorded.
func blameOf(t *testing.T, n, f int, all ...saying) (*Blame, *plain) {
	t.Helper()
	b, err := New(n, f)
	if err != 0 || b == nil {
		t.Fatalf("New(%d, %d): got %v, %d", n, f, b, err)
	}
	m := &plain{n: n, f: f}
	for _, s := range all {
		say(t, "to begin with", b, m, s, 0)
	}
	return b, m
}

// told holds what a blame tells against what is written out: who is evicted, and who has accused one worker.
func told(t *testing.T, what string, b *Blame, gone []int, whom int, by []int) {
	t.Helper()
	if got := b.Gone(); !slices.Equal(got, gone) {
		t.Errorf("%s: Gone: got %v, want %v", what, got, gone)
	}
	if got := b.By(whom); !slices.Equal(got, by) {
		t.Errorf("%s: By(%d): got %v, want %v", what, whom, got, by)
	}
	for k := -1; k <= most; k++ {
		if got := b.Is(k); got != slices.Contains(gone, k) {
			t.Errorf("%s: Is(%d): got %v", what, k, got)
		}
	}
}

// everything is all that can be said of n workers and recorded.
func everything(n int) []saying {
	var all []saying
	for whom := range n {
		all = append(all, fault(whom))
		for by := range n {
			if by != whom {
				all = append(all, accuse(by, whom))
			}
		}
	}
	return all
}

// The chapter's examples, step by step.
func TestExamples(t *testing.T) {
	b, m := blameOf(t, 4, 1)
	say(t, "one accuses", b, m, accuse(0, 3), 0)
	told(t, "one accuses", b, nil, 3, []int{0})
	say(t, "another one does", b, m, accuse(1, 3), 0)
	told(t, "another one does", b, []int{3}, 3, []int{0, 1})
	say(t, "a fault", b, m, fault(2), 0)
	told(t, "a fault", b, []int{2, 3}, 3, []int{0, 1})
	told(t, "a fault", b, []int{2, 3}, 2, nil)
}

// P13.1, R1: each n and f about the limits, written out; beside the error there is no blame.
func TestNew(t *testing.T) {
	cases := []struct {
		n, f int
		want api.Errno
	}{
		{-1, 0, arg}, {0, 0, arg}, {1, 0, 0}, {2, 0, 0}, {3, 0, 0}, {6, 0, 0}, {7, 0, 0}, {8, 0, arg}, {9, 0, arg},
		{-1, -1, arg}, {0, -1, arg}, {1, -1, arg}, {2, -1, arg}, {4, -1, arg}, {7, -1, arg}, {7, -2, arg}, {8, -1, arg}, {7, -3, arg},
		{1, 1, arg}, {2, 1, arg}, {3, 1, arg}, {4, 1, 0}, {5, 1, 0}, {6, 1, 0}, {7, 1, 0}, {8, 1, arg},
		{4, 2, arg}, {5, 2, arg}, {6, 2, arg}, {7, 2, 0}, {8, 2, arg}, {7, 3, arg}, {8, 3, arg}, {9, 3, arg}, {10, 3, arg}, {11, 3, arg},
		{-4, -2, arg}, {-2, -1, arg}, {-5, -2, arg}, {0, 1, arg}, {100, 33, arg}, {math.MaxInt, 0, arg}, {math.MaxInt, 1, arg}, {math.MinInt, 0, arg},
		{7, math.MaxInt, arg}, {7, math.MinInt, arg}, {math.MinInt, math.MinInt, arg}, {math.MaxInt, math.MaxInt, arg}, {math.MinInt, math.MaxInt, arg},
	}
	for _, c := range cases {
		b, err := New(c.n, c.f)
		if err != c.want || (b != nil) != (c.want == 0) {
			t.Errorf("New(%d, %d): got %v, %d, want %d", c.n, c.f, b, err, c.want)
		}
	}
}

// P13.1: any n and f by the promise's words.
func TestNewOfAny(t *testing.T) {
	for _, n := range ends {
		for _, f := range ends {
			want := arg
			if slices.Contains(clusters, [2]int{n, f}) {
				want = 0
			}
			if b, err := New(n, f); err != want || (b != nil) != (want == 0) {
				t.Errorf("New(%d, %d): got %v, %d, want %d", n, f, b, err, want)
			}
		}
	}
}

// P13.1: an f of which 3f is too great for an int, and would wrap around to one that is less than n.
func TestNewOfGreatF(t *testing.T) {
	third := int(uint(math.MaxUint) / 3)
	for _, f := range []int{third, third + 1, third + 2, third + 3, math.MaxInt/3 + 1, math.MaxInt / 3, math.MaxInt / 2, math.MaxInt, math.MinInt, -third, math.MinInt + third} {
		for n := -1; n <= most+1; n++ {
			if b, err := New(n, f); b != nil || err != arg {
				t.Errorf("New(%d, %d): got %v, %d", n, f, b, err)
			}
		}
	}
	if third*3 >= 0 || (third+1)*3 != 2 || (third+2)*3 != 5 {
		t.Error("the test is wrong: 3f does not wrap around")
	}
}

// P13.1, P13.3: in a new blame nobody is evicted, and nobody has accused anybody; and everything can be said.
func TestNewHasNothing(t *testing.T) {
	for _, c := range clusters {
		b, m := blameOf(t, c[0], c[1])
		for k := -1; k <= most; k++ {
			told(t, "new", b, nil, k, nil)
		}
		check(t, "new", b, m)
		for _, s := range everything(c[0]) {
			other, n := blameOf(t, c[0], c[1])
			say(t, "the first thing", other, n, s, 0)
		}
	}
}

// P13.2, R1: Accuse of any two numbers, in a new blame, and a second time.
func TestAccuseOfAny(t *testing.T) {
	for _, c := range clusters {
		for _, by := range ends {
			for _, whom := range ends {
				want := arg
				if by >= 0 && by < c[0] && whom >= 0 && whom < c[0] && by != whom {
					want = 0
				}
				b, m := blameOf(t, c[0], c[1])
				say(t, "first", b, m, accuse(by, whom), want)
				if want == 0 {
					want = old
				}
				say(t, "again", b, m, accuse(by, whom), want)
			}
		}
	}
}

// P13.2: what just is a worker, and what just is none, written out; and a worker does not accuse itself, even when it is at fault or evicted.
func TestAccuseJustWithin(t *testing.T) {
	cases := []struct {
		n, by, whom int
		want        api.Errno
	}{
		{4, -1, 0, arg}, {4, 0, -1, arg}, {4, -1, -1, arg}, {4, 0, 3, 0}, {4, 3, 0, 0}, {4, 4, 0, arg}, {4, 0, 4, arg}, {4, 4, 4, arg}, {4, 4, 5, arg}, {4, 6, 0, arg}, {4, 0, 6, arg},
		{4, 0, 0, arg}, {4, 1, 1, arg}, {4, 2, 2, arg}, {4, 3, 3, arg}, {4, -1, 4, arg}, {4, 4, -1, arg}, {4, -2, -1, arg}, {4, 5, 3, arg}, {4, 3, 5, arg},
		{7, 6, 0, 0}, {7, 0, 6, 0}, {7, 7, 0, arg}, {7, 0, 7, arg}, {7, 6, 6, arg}, {7, 7, 7, arg}, {7, 6, 7, arg}, {7, 7, 6, arg}, {7, 6, 5, 0}, {7, -1, 6, arg}, {7, 6, -1, arg},
		{1, 0, 0, arg}, {1, 0, 1, arg}, {1, 1, 0, arg}, {2, 0, 1, 0}, {2, 1, 0, 0}, {2, 1, 1, arg}, {2, 1, 2, arg}, {2, 2, 1, arg},
	}
	for _, c := range cases {
		b, m := blameOf(t, c.n, 0)
		say(t, "just within", b, m, accuse(c.by, c.whom), c.want)
	}
	b, m := blameOf(t, 4, 1, fault(2), accuse(0, 3), accuse(1, 3))
	for k := range 4 {
		say(t, "itself", b, m, accuse(k, k), arg)
	}
}

// P13.2: the same accusation a second time, also once its worker is evicted; the other way round, and with another worker, it is another one.
func TestAccuseTwice(t *testing.T) {
	for _, c := range clusters {
		for by := range c[0] {
			for whom := range c[0] {
				if by == whom {
					continue
				}
				b, m := blameOf(t, c[0], c[1], accuse(by, whom))
				for range 3 {
					say(t, "again", b, m, accuse(by, whom), old)
				}
				say(t, "the other way round", b, m, accuse(whom, by), 0)
				say(t, "the other way round, again", b, m, accuse(whom, by), old)
				for k := range c[0] {
					if k != by && k != whom {
						say(t, "by another one", b, m, accuse(k, whom), 0)
						say(t, "of another one", b, m, accuse(by, k), 0)
					}
				}
				say(t, "of everybody", b, m, accuse(by, whom), old)
				say(t, "a fault", b, m, fault(whom), 0)
				say(t, "behind a fault", b, m, accuse(by, whom), old)
			}
		}
	}
}

// P13.2, R1: Fault of any number, in a new blame, and a second time.
func TestFaultOfAny(t *testing.T) {
	for _, c := range clusters {
		for _, whom := range ends {
			want := arg
			if whom >= 0 && whom < c[0] {
				want = 0
			}
			b, m := blameOf(t, c[0], c[1])
			say(t, "first", b, m, fault(whom), want)
			if want == 0 {
				want = old
			}
			say(t, "again", b, m, fault(whom), want)
		}
	}
	cases := []struct {
		n, whom int
		want    api.Errno
	}{{4, -1, arg}, {4, 0, 0}, {4, 3, 0}, {4, 4, arg}, {4, 6, arg}, {4, 7, arg}, {7, -1, arg}, {7, 0, 0}, {7, 6, 0}, {7, 7, arg}, {1, 0, 0}, {1, 1, arg}}
	for _, c := range cases {
		b, m := blameOf(t, c.n, 0)
		say(t, "just within", b, m, fault(c.whom), c.want)
	}
}

// P13.2: the fault of one worker, a second time, ahead of and behind that of another one, and once the worker is evicted by others.
func TestFaultTwice(t *testing.T) {
	b, m := blameOf(t, 5, 1, fault(3))
	say(t, "again", b, m, fault(3), old)
	say(t, "another one", b, m, fault(0), 0)
	say(t, "again", b, m, fault(0), old)
	say(t, "again", b, m, fault(3), old)
	b, m = blameOf(t, 5, 1, accuse(0, 4), accuse(1, 4), accuse(2, 4))
	say(t, "it is evicted already", b, m, fault(4), 0)
	say(t, "again", b, m, fault(4), old)
	say(t, "of one that accuses", b, m, fault(0), 0)
	told(t, "both", b, []int{0, 4}, 4, []int{0, 1, 2})
}

// refused are calls that return an error, whatever was said.
func refused(n int) []saying {
	all := []saying{fault(-1), fault(n), fault(n + 1), fault(most), fault(math.MinInt), fault(math.MaxInt)}
	for k := range n {
		for _, far := range []int{-1, n, n + 1, most, math.MinInt, math.MaxInt} {
			all = append(all, accuse(k, far), accuse(far, k))
		}
		all = append(all, accuse(k, k))
	}
	return all
}

// R1: a call that returns an error changes nothing of what is told, nor of what the next calls return, however often.
func TestErrorsChangeNothing(t *testing.T) {
	r := rand.New(rand.NewSource(1))
	for _, c := range clusters {
		all := everything(c[0])
		r.Shuffle(len(all), func(i, j int) { all[i], all[j] = all[j], all[i] })
		b, m := blameOf(t, c[0], c[1])
		other, _ := New(c[0], c[1])
		for i, s := range all {
			for _, no := range refused(c[0]) {
				if got := no.call(b); got != arg {
					t.Errorf("%v: %v: got %d", m.all, no, got)
				}
			}
			for _, no := range all[:i] {
				if got := no.call(b); got != old {
					t.Errorf("%v: %v: got %d", m.all, no, got)
				}
			}
			check(t, "refused", b, m)
			if got, want := s.call(b), s.call(other); got != 0 || want != 0 {
				t.Errorf("%v: %v: got %d, and %d where nothing was refused", m.all, s, got, want)
			}
			m.wantSay(s)
			if *b != *other {
				t.Errorf("%v: what was refused is kept: %v, not %v", m.all, *b, *other)
			}
		}
	}
}

// P13.3, R4: telling changes nothing, and tells the same twice.
func TestTellingChangesNothing(t *testing.T) {
	b, m := blameOf(t, 7, 2, accuse(0, 6), accuse(3, 6), accuse(1, 6), accuse(5, 2), fault(4), accuse(6, 0))
	was := *b
	for range 3 {
		check(t, "told", b, m)
	}
	if *b != was {
		t.Errorf("got %v, want %v", *b, was)
	}
}

// bitsOf are the workers whose bits are set.
func bitsOf(set uint) []int {
	var all []int
	for k := range most {
		if set>>k&1 == 1 {
			all = append(all, k)
		}
	}
	return all
}

// P13.4: f accusers are not enough and f + 1 are, whichever they are and in whichever order they come; all other workers stay.
func TestHowManyAccusersAreEnough(t *testing.T) {
	for _, c := range clusters {
		n, f := c[0], c[1]
		for whom := range n {
			for set := range uint(1) << n {
				if set>>whom&1 == 1 {
					continue
				}
				accusers := bitsOf(set)
				var gone []int
				if bits.OnesCount(set) > f {
					gone = []int{whom}
				}
				for range 2 {
					b, _ := New(n, f)
					for i, by := range accusers {
						if got := b.Is(whom); got != (i > f) {
							t.Errorf("n %d, f %d: %d of %v: Is(%d): got %v", n, f, i, accusers, whom, got)
						}
						if got := b.Accuse(by, whom); got != 0 {
							t.Errorf("n %d, f %d: Accuse(%d, %d): got %d", n, f, by, whom, got)
						}
					}
					slices.Sort(accusers)
					told(t, "accused", b, gone, whom, accusers)
					slices.Reverse(accusers)
				}
			}
		}
	}
}

// P13.4: how many are enough, written out for each f.
func TestEnoughWrittenOut(t *testing.T) {
	b, m := blameOf(t, 3, 0)
	say(t, "f 0, one", b, m, accuse(2, 1), 0)
	told(t, "f 0, one", b, []int{1}, 1, []int{2})
	b, m = blameOf(t, 7, 1)
	say(t, "f 1, one", b, m, accuse(6, 5), 0)
	told(t, "f 1, one", b, nil, 5, []int{6})
	say(t, "f 1, two", b, m, accuse(0, 5), 0)
	told(t, "f 1, two", b, []int{5}, 5, []int{0, 6})
	b, m = blameOf(t, 7, 2)
	say(t, "f 2, one", b, m, accuse(4, 0), 0)
	say(t, "f 2, two", b, m, accuse(6, 0), 0)
	told(t, "f 2, two", b, nil, 0, []int{4, 6})
	say(t, "f 2, three", b, m, accuse(1, 0), 0)
	told(t, "f 2, three", b, []int{0}, 0, []int{1, 4, 6})
	say(t, "f 2, four", b, m, accuse(2, 0), 0)
	told(t, "f 2, four", b, []int{0}, 0, []int{1, 2, 4, 6})
}

// P13.4: what is said of different workers does not add up, nor what one worker says, even if each is accused by f.
func TestAccusationsDoNotAddUp(t *testing.T) {
	for _, c := range clusters {
		n, f := c[0], c[1]
		b, m := blameOf(t, n, f)
		for whom := range n {
			for i := range f {
				say(t, "f accuse each", b, m, accuse((whom+1+i)%n, whom), 0)
			}
		}
		told(t, "f accuse each", b, nil, -1, nil)
		for whom := range n {
			for i := range f {
				say(t, "again", b, m, accuse((whom+1+i)%n, whom), old)
			}
		}
		told(t, "again", b, nil, -1, nil)
	}
	b, m := blameOf(t, 7, 1)
	for whom := range 6 {
		say(t, "one accuses all", b, m, accuse(6, whom), 0)
	}
	told(t, "one accuses all", b, nil, 6, nil)
	say(t, "another one accuses one", b, m, accuse(0, 5), 0)
	told(t, "another one accuses one", b, []int{5}, 5, []int{0, 6})
}

// P13.2, P13.4: a fault is enough by itself, and of that worker alone; it is no accusation, neither of it nor by it.
func TestFaultIsEnough(t *testing.T) {
	for _, c := range clusters {
		n, f := c[0], c[1]
		for whom := range n {
			b, m := blameOf(t, n, f, fault(whom))
			told(t, "a fault", b, []int{whom}, whom, nil)
			for k := range n {
				if got := b.By(k); len(got) != 0 {
					t.Errorf("n %d: Fault(%d): By(%d): got %v", n, whom, k, got)
				}
			}
			for k := range n {
				if k != whom {
					say(t, "it was no accusation", b, m, accuse(whom, k), 0)
					say(t, "it was no accusation", b, m, accuse(k, whom), 0)
				}
			}
		}
	}
	b, m := blameOf(t, 7, 2, accuse(0, 3), accuse(1, 3))
	say(t, "beside f accusers", b, m, fault(4), 0)
	told(t, "beside f accusers", b, []int{4}, 3, []int{0, 1})
	say(t, "of one that f accuse", b, m, fault(3), 0)
	told(t, "of one that f accuse", b, []int{3, 4}, 3, []int{0, 1})
}

// P13.4: the fault of an accuser, or of one that is accused, does not count as one more accusation.
func TestFaultDoesNotCount(t *testing.T) {
	for _, c := range [][2]int{{4, 1}, {5, 1}, {7, 1}, {7, 2}} {
		n, f := c[0], c[1]
		b, m := blameOf(t, n, f)
		for by := range f {
			say(t, "f accusers", b, m, accuse(by, n-1), 0)
		}
		for k := range n - 1 {
			say(t, "faults of the others", b, m, fault(k), 0)
			if b.Is(n - 1) {
				t.Errorf("n %d, f %d: %v: evicted", n, f, m.all)
			}
		}
		say(t, "one more accuser", b, m, accuse(f, n-1), 0)
		if !b.Is(n-1) || len(b.Gone()) != n {
			t.Errorf("n %d, f %d: %v: got %v", n, f, m.all, b.Gone())
		}
	}
}

// P13.2: evicted workers, by a fault or by others, accuse and are accused, and their accusations count, those of before and of after.
func TestEvictedAccuse(t *testing.T) {
	b, m := blameOf(t, 4, 1, fault(0), accuse(2, 1), accuse(3, 1))
	told(t, "two are evicted", b, []int{0, 1}, 1, []int{2, 3})
	say(t, "one evicted accuses", b, m, accuse(0, 3), 0)
	told(t, "one evicted accuses", b, []int{0, 1}, 3, []int{0})
	say(t, "the other one too", b, m, accuse(1, 3), 0)
	told(t, "the other one too", b, []int{0, 1, 3}, 3, []int{0, 1})
	say(t, "one evicted accuses another one", b, m, accuse(0, 1), 0)
	told(t, "one evicted accuses another one", b, []int{0, 1, 3}, 1, []int{0, 2, 3})
	say(t, "one that was at fault is accused", b, m, accuse(3, 0), 0)
	say(t, "by another one that is evicted", b, m, accuse(1, 0), 0)
	told(t, "all accused", b, []int{0, 1, 3}, 0, []int{1, 3})
	say(t, "one evicted, again", b, m, accuse(0, 3), old)
	say(t, "the last one", b, m, accuse(0, 2), 0)
	say(t, "the last one", b, m, accuse(3, 2), 0)
	told(t, "the last one", b, []int{0, 1, 2, 3}, 2, []int{0, 3})

	b, m = blameOf(t, 7, 2, accuse(4, 5), accuse(6, 5), accuse(4, 6))
	say(t, "accusers are evicted", b, m, fault(4), 0)
	say(t, "accusers are evicted", b, m, fault(6), 0)
	say(t, "what they have said still counts", b, m, accuse(0, 5), 0)
	told(t, "what they have said still counts", b, []int{4, 5, 6}, 5, []int{0, 4, 6})
}

// P13.3, P0: what is no worker is not evicted, and nobody has accused it, even where it would be one among more workers.
func TestNoWorkers(t *testing.T) {
	for _, c := range clusters {
		n := c[0]
		b, _ := blameOf(t, n, c[1])
		for _, s := range everything(n) {
			s.call(b)
		}
		for _, k := range ends {
			isWorker := k >= 0 && k < n
			if got := b.Is(k); got != isWorker {
				t.Errorf("n %d: Is(%d): got %v", n, k, got)
			}
			want := 0
			if isWorker {
				want = n - 1
			}
			if got := b.By(k); len(got) != want {
				t.Errorf("n %d: By(%d): got %v", n, k, got)
			}
		}
		if got := b.Gone(); len(got) != n {
			t.Errorf("n %d: Gone: got %v", n, got)
		}
	}
}

// P13.3: Gone and By are in increasing order, whatever the order in which it was said.
func TestOrderOfResults(t *testing.T) {
	cases := [][]int{{6, 0, 3}, {0, 3, 6}, {5, 4, 2, 1}, {6, 5, 4, 3, 2, 1, 0}, {3, 6, 1, 5, 0, 4, 2}, {2}, {1, 0}}
	for _, c := range cases {
		sorted := slices.Sorted(slices.Values(c))
		b, m := blameOf(t, 7, 2)
		for _, k := range c {
			say(t, "faults", b, m, fault(k), 0)
		}
		told(t, "faults", b, sorted, 0, nil)
		for whom := range 7 {
			others := slices.DeleteFunc(slices.Clone(sorted), func(k int) bool { return k == whom })
			for _, by := range c {
				if by != whom {
					say(t, "accusations", b, m, accuse(by, whom), 0)
				}
			}
			if got := b.By(whom); !slices.Equal(got, others) {
				t.Errorf("%v: By(%d): got %v", c, whom, got)
			}
		}
		b, m = blameOf(t, 7, 0)
		for _, whom := range c {
			say(t, "accused", b, m, accuse((whom+5)%7, whom), 0)
		}
		told(t, "accused", b, sorted, c[0], []int{(c[0] + 5) % 7})
	}
}

// spoil overwrites a list, up to the end of its memory.
func spoil(l []int) {
	l = l[:cap(l)]
	for i := range l {
		l[i] = -9 - i
	}
}

// R3: what a caller writes into a result, or behind its end, reaches neither the blame nor another result; and a result stays as it was.
func TestResultsAreTheCallersOwn(t *testing.T) {
	b, m := blameOf(t, 7, 1, accuse(6, 2), accuse(0, 2), accuse(3, 2), fault(5), accuse(2, 5), accuse(1, 0), accuse(6, 0))
	for range 3 {
		gone, again, by, of := b.Gone(), b.Gone(), b.By(2), b.By(2)
		spoil(gone)
		spoil(by)
		if !slices.Equal(again, []int{0, 2, 5}) || !slices.Equal(of, []int{0, 3, 6}) {
			t.Errorf("got %v and %v", again, of)
		}
		spoil(append(b.Gone(), 4, 4, 4))
		spoil(append(b.By(2), 4, 4, 4))
		check(t, "spoilt", b, m)
	}
	gone, by, none := b.Gone(), b.By(2), b.By(4)
	for _, s := range everything(7) {
		s.call(b)
	}
	if !slices.Equal(gone, []int{0, 2, 5}) || !slices.Equal(by, []int{0, 3, 6}) || len(none) != 0 {
		t.Errorf("got %v, %v and %v", gone, by, none)
	}
}

// P13.1: two blames share nothing.
func TestBlamesAreApart(t *testing.T) {
	a, m := blameOf(t, 4, 1)
	b, k := blameOf(t, 7, 2)
	c, n := blameOf(t, 4, 1)
	say(t, "one", a, m, accuse(0, 3), 0)
	say(t, "one", a, m, fault(1), 0)
	say(t, "the second one", b, k, accuse(0, 3), 0)
	check(t, "the third one", c, n)
	say(t, "the third one", c, n, accuse(0, 3), 0)
	say(t, "the third one", c, n, fault(1), 0)
	say(t, "the second one", b, k, accuse(6, 5), 0)
	check(t, "the first one", a, m)
	say(t, "of fewer workers", a, m, accuse(6, 3), arg)
	say(t, "one", a, m, accuse(2, 3), 0)
	check(t, "the second one", b, k)
	check(t, "the third one", c, n)
}

// permuted calls f with each order of l.
func permuted(l []saying, k int, f func()) {
	if k == len(l) {
		f()
		return
	}
	for i := k; i < len(l); i++ {
		l[k], l[i] = l[i], l[k]
		permuted(l, k+1, f)
		l[k], l[i] = l[i], l[k]
	}
}

// same holds what two blames tell against each other.
func same(t *testing.T, what string, a, b *Blame) {
	t.Helper()
	if x, y := a.Gone(), b.Gone(); !slices.Equal(x, y) {
		t.Errorf("%s: Gone: %v and %v", what, x, y)
	}
	for k := -1; k <= most; k++ {
		if a.Is(k) != b.Is(k) || !slices.Equal(a.By(k), b.By(k)) {
			t.Errorf("%s: of %d: %v and %v, %v and %v", what, k, a.Is(k), b.Is(k), a.By(k), b.By(k))
		}
	}
}

// P13.4: a few accusations and faults, some of them refused, in every order: in the end the same is told.
func TestEveryOrder(t *testing.T) {
	cases := []struct {
		n, f int
		all  []saying
	}{
		{4, 1, []saying{accuse(0, 3), accuse(1, 3), fault(2), accuse(3, 0), accuse(2, 0), accuse(3, 1)}},
		{4, 1, []saying{fault(0), accuse(0, 1), accuse(2, 1), accuse(1, 3), accuse(0, 3), fault(1)}},
		{4, 0, []saying{accuse(0, 1), accuse(1, 0), fault(0), accuse(2, 2), accuse(4, 3), accuse(0, 1)}},
		{7, 2, []saying{accuse(0, 6), accuse(5, 6), accuse(3, 6), accuse(6, 3), accuse(0, 3), accuse(3, 0)}},
		{7, 1, []saying{accuse(0, 6), accuse(0, 6), accuse(5, 6), fault(6), fault(6), fault(7)}},
		{1, 0, []saying{fault(0), fault(0), accuse(0, 0), fault(1), accuse(1, 0)}},
	}
	for i, c := range cases {
		first, _ := New(c.n, c.f)
		for _, s := range c.all {
			s.call(first)
		}
		permuted(c.all, 0, func() {
			b, _ := New(c.n, c.f)
			for _, s := range c.all {
				s.call(b)
			}
			same(t, "a few", first, b)
		})
		if len(first.Gone()) == 0 {
			t.Errorf("case %d: the test is wrong: nobody is evicted", i)
		}
	}
}

// P13.4: any accusations and faults, repeats and refused ones among them, in two orders: the same is told, and each error comes as often.
func TestTwoOrders(t *testing.T) {
	r := rand.New(rand.NewSource(2))
	for range 3000 {
		c := clusters[r.Intn(len(clusters))]
		all := make([]saying, r.Intn(40))
		for i := range all {
			all[i] = someSaying(r, c[0])
		}
		a, _ := New(c[0], c[1])
		b, _ := New(c[0], c[1])
		var errs [2][16]int
		for _, s := range all {
			errs[0][s.call(a)]++
		}
		r.Shuffle(len(all), func(i, j int) { all[i], all[j] = all[j], all[i] })
		for _, s := range all {
			errs[1][s.call(b)]++
		}
		same(t, "any", a, b)
		if errs[0] != errs[1] {
			t.Errorf("%v: %v and %v", all, errs[0], errs[1])
		}
	}
}

// someSaying is one that has a good chance of being recorded.
func someSaying(r *rand.Rand, n int) saying {
	part := func() int {
		if r.Intn(12) == 0 {
			return ends[r.Intn(len(ends))]
		}
		return r.Intn(n)
	}
	if r.Intn(6) == 0 {
		return fault(part())
	}
	return accuse(part(), part())
}

// P13.4: whoever is evicted remains so, whatever is said, and whoever accused somebody has done so for good.
func TestEvictedRemainSo(t *testing.T) {
	r := rand.New(rand.NewSource(3))
	within := func(a, b []int) bool {
		return !slices.ContainsFunc(a, func(k int) bool { return !slices.Contains(b, k) })
	}
	for range 1000 {
		c := clusters[r.Intn(len(clusters))]
		b, _ := New(c[0], c[1])
		var gone []int
		var by [most][]int
		for range 80 {
			s := someSaying(r, c[0])
			s.call(b)
			now := b.Gone()
			if !within(gone, now) {
				t.Fatalf("n %d, f %d: %v: %v were evicted, and %v are", c[0], c[1], s, gone, now)
			}
			gone = now
			for _, k := range gone {
				if !b.Is(k) {
					t.Fatalf("n %d, f %d: %v: %v are evicted, but Is(%d) is false", c[0], c[1], s, gone, k)
				}
			}
			for k := range by {
				if now := b.By(k); !within(by[k], now) {
					t.Fatalf("n %d, f %d: %v: By(%d) was %v and is %v", c[0], c[1], s, k, by[k], now)
				} else {
					by[k] = now
				}
			}
		}
	}
}

// P13.2 to P13.4 by their words: anything said at random, step by step.
func TestByChance(t *testing.T) {
	r := rand.New(rand.NewSource(4))
	for range 300 {
		c := clusters[r.Intn(len(clusters))]
		b, m := blameOf(t, c[0], c[1])
		for range 50 {
			s := someSaying(r, c[0])
			want := (&plain{m.n, m.f, slices.Clone(m.all)}).wantSay(s)
			say(t, "by chance", b, m, s, want)
		}
	}
}

// P13.2 to P13.4 by their words: all sequences of a few steps.
func TestSmallBlames(t *testing.T) {
	for _, c := range []struct{ n, f, depth int }{{1, 0, 4}, {2, 0, 5}, {3, 0, 3}, {4, 1, 3}} {
		steps := append(everything(c.n), accuse(0, 0), accuse(0, c.n), fault(c.n))
		var walk func(l []saying)
		walk = func(l []saying) {
			b, _ := New(c.n, c.f)
			m := &plain{n: c.n, f: c.f}
			for _, s := range l {
				if got, want := s.call(b), m.wantSay(s); got != want {
					t.Fatalf("%v: %v: got %d, want %d", l, s, got, want)
				}
			}
			check(t, "a small blame", b, m)
			if len(l) == c.depth {
				return
			}
			for _, s := range steps {
				walk(append(slices.Clone(l), s))
			}
		}
		walk(nil)
	}
}

// R4, R5: blames that are used by a goroutine each don't disturb one another.
func TestTogether(t *testing.T) {
	var all sync.WaitGroup
	for i := range 8 {
		c := clusters[4+i]
		b, m := blameOf(t, c[0], c[1])
		r := rand.New(rand.NewSource(int64(i)))
		all.Go(func() {
			for range 100 {
				s := someSaying(r, c[0])
				if got, want := s.call(b), m.wantSay(s); got != want {
					t.Errorf("%v: got %d, want %d", s, got, want)
				}
				check(t, "together", b, m)
			}
		})
	}
	all.Wait()
}

// P0, P13.1 to P13.4: any calls at all; two bytes are the n and the f, and each three behind them something that is said.
func FuzzBlame(f *testing.F) {
	f.Add([]byte{4, 1, 0, 0, 3, 0, 1, 3, 1, 0, 2})
	f.Add([]byte{})
	f.Add([]byte{7, 2, 0, 0, 6, 0, 1, 6, 0, 2, 6, 0, 2, 6, 0, 6, 6, 0, 7, 6, 1, 0, 7, 1, 9, 5, 1, 0, 5})
	f.Add([]byte{255, 240, 0, 0, 0})
	f.Add([]byte{1, 0, 1, 0, 0, 0, 0, 0, 0, 255, 0, 1, 0, 255})
	part := func(n byte) int {
		if int(n) < 256-len(ends) {
			return int(n % 9)
		}
		return ends[int(n)-(256-len(ends))]
	}
	f.Fuzz(func(t *testing.T, text []byte) {
		if len(text) < 2 {
			return
		}
		n, faulty := part(text[0]), part(text[1])
		b, err := New(n, faulty)
		if !slices.Contains(clusters, [2]int{n, faulty}) {
			if b != nil || err != arg {
				t.Errorf("New(%d, %d): got %v, %d", n, faulty, b, err)
			}
			return
		}
		m := &plain{n: n, f: faulty}
		// Each step is held against all that was said, so that the time grows with the square of their number.
		for text = text[2:min(len(text), 600)]; len(text) >= 3; text = text[3:] {
			s := saying{isFault: text[0]%4 == 1, whom: part(text[2])}
			if !s.isFault {
				s.by = part(text[1])
			}
			want := (&plain{m.n, m.f, slices.Clone(m.all)}).wantSay(s)
			say(t, "behind a call", b, m, s, want)
		}
	})
}
