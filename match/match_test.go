package match

import (
	"math"
	"math/rand"
	"slices"
	"sync"
	"testing"

	"garboard/api"
)

// The limits, the errors and the kinds, by their numbers, so that no test leans on the constants.
const (
	workers = 7
	mostOf  = 1000000
	most    = 1000000000
	node    = 10000000

	arg  = api.Errno(1)
	over = api.Errno(9)

	kHold = 1
	kDrop = 2
	kSend = 3
	kTake = 4
	kFeed = 5
)

// others are kinds that change nothing: three that are kinds, and some that are none.
var others = []int{kHold, kDrop, kFeed, 0, -1, 6, 7, 259, 260, math.MinInt, math.MaxInt}

// ends are numbers around the limits of the arguments, and the type's own ends.
var ends = []int{
	math.MinInt, math.MinInt + 1, -mostOf - 1, -mostOf, -8, -7, -2, -1, 0, 1, 2, 5, 6, 7, 8,
	mostOf - 1, mostOf, mostOf + 1, most, most + 1, math.MaxInt - 1, math.MaxInt,
}

func at(node, epoch, round int) api.Point {
	return api.Point{Node: node, T: api.Stamp{Epoch: epoch, Round: round}}
}

func count(epoch, round, n int) api.Count {
	return api.Count{T: api.Stamp{Epoch: epoch, Round: round}, N: n}
}

// some is an entry, but for its number and what it follows.
func some(kind int, p api.Point, edge, peer, n int) api.Entry {
	return api.Entry{Kind: kind, Point: p, Edge: edge, Peer: peer, N: n}
}

func send(p api.Point, edge, peer, n int) api.Entry { return some(kSend, p, edge, peer, n) }
func take(p api.Point, edge, peer, n int) api.Entry { return some(kTake, p, edge, peer, n) }

// sum, within and isAhead are in the document's words, so that no test leans on package stamp; sum wraps around by the rules of numbers without a sign.
func sum(a, b int) int { return int(uint(a) + uint(b)) }

func within(n, least, greatest int) bool { return least <= n && n <= greatest }

func isAhead(a, b api.Point) bool {
	if a.Node != b.Node {
		return a.Node < b.Node
	}
	return a.T.Epoch < b.T.Epoch || a.T.Epoch == b.T.Epoch && a.T.Round < b.T.Round
}

// way is one that records go, and how many were sent that way and taken from it.
type way struct {
	from, to, edge int
	p              api.Point
	sent, taken    int
}

// plain is a match by the document's words: all ways that were ever asked for.
type plain struct{ ways []way }

// way is the one between two workers, along an edge, at a point; there may be none that was asked for.
func (m *plain) way(from, to, edge int, p api.Point) *way {
	for i := range m.ways {
		if w := &m.ways[i]; w.from == from && w.to == to && w.edge == edge && w.p == p {
			return w
		}
	}
	m.ways = append(m.ways, way{from: from, to: to, edge: edge, p: p})
	return &m.ways[len(m.ways)-1]
}

// wantOpen is Open by the chapter's Words.
func (m *plain) wantOpen(from, to, edge int, p api.Point) int {
	w := m.way(from, to, edge, p)
	return w.sent - w.taken
}

// wantAll is All by the words of P12.3.
func (m *plain) wantAll() int {
	all := 0
	for _, w := range m.ways {
		all += w.sent - w.taken
	}
	return all
}

// wantMay is May by the words of P12.2.
func (m *plain) wantMay(worker int, e api.Entry) api.Errno {
	switch {
	case !within(worker, 0, 6) || !within(e.Peer, 0, 6) || !within(e.N, 1, mostOf):
		return arg
	case e.Kind == kSend && m.wantOpen(worker, e.Peer, e.Edge, e.Point)+e.N > most:
		return over
	case e.Kind == kTake && m.wantOpen(e.Peer, worker, e.Edge, e.Point) < e.N:
		return over
	}
	return 0
}

// wantPut puts as Put should, by the words of P12.2.
func (m *plain) wantPut(worker int, e api.Entry) api.Errno {
	if err := m.wantMay(worker, e); err != 0 {
		return err
	}
	switch e.Kind {
	case kSend:
		m.way(worker, e.Peer, e.Edge, e.Point).sent += e.N
	case kTake:
		m.way(e.Peer, worker, e.Edge, e.Point).taken += e.N
	}
	return 0
}

// wantOff removes as Off should, by the words of P12.4: the sums are put in their places one by one.
func (m *plain) wantOff(worker int) []api.Count {
	var points []api.Point
	var sums []int
	for i := range m.ways {
		w := &m.ways[i]
		open := w.sent - w.taken
		if w.from != worker && w.to != worker || open == 0 {
			continue
		}
		w.taken = w.sent
		j := 0
		for j < len(points) && isAhead(points[j], w.p) {
			j++
		}
		if j == len(points) || points[j] != w.p {
			points, sums = slices.Insert(points, j, w.p), slices.Insert(sums, j, 0)
		}
		sums[j] = sum(sums[j], open)
	}
	var all []api.Count
	for i, p := range points {
		all = append(all, count(p.T.Epoch, sum(p.T.Round, int(uint(node)*uint(p.Node))), sums[i]))
	}
	return all
}

// copied is m as it is now.
func (m *plain) copied() *plain { return &plain{slices.Clone(m.ways)} }

// check holds what is open in every way that was asked for, and in all, against m.
func check(t *testing.T, what string, x *Match, m *plain) {
	t.Helper()
	if got, want := x.All(), m.wantAll(); got != want {
		t.Errorf("%s: All: got %d, want %d", what, got, want)
	}
	for _, w := range m.ways {
		if got := x.Open(w.from, w.to, w.edge, w.p); got != w.sent-w.taken {
			t.Errorf("%s: Open(%d, %d, %d, %v): got %d, want %d", what, w.from, w.to, w.edge, w.p, got, w.sent-w.taken)
		}
	}
}

// put asks for an entry and puts it, with the result that is expected, in the match and in what it is held against; asking changes nothing.
func put(t *testing.T, what string, x *Match, m *plain, worker int, e api.Entry, want api.Errno) {
	t.Helper()
	m.way(worker, e.Peer, e.Edge, e.Point)
	m.way(e.Peer, worker, e.Edge, e.Point)
	for range 2 {
		if got := x.May(worker, e); got != want {
			t.Errorf("%s: May(%d, %v): got %d, want %d", what, worker, e, got, want)
		}
		check(t, what+", asked", x, m)
	}
	if got := x.Put(worker, e); got != want {
		t.Errorf("%s: Put(%d, %v): got %d, want %d", what, worker, e, got, want)
	}
	if got := m.wantPut(worker, e); got != want {
		t.Fatalf("%s: the test is wrong: %v: %d, not %d", what, e, got, want)
	}
	check(t, what, x, m)
}

// off removes what is open of a worker, in the match and in what it is held against.
func off(t *testing.T, what string, x *Match, m *plain, worker int) []api.Count {
	t.Helper()
	check(t, what+", ahead of Off", x, m)
	got, want := x.Off(worker), m.wantOff(worker)
	if !slices.Equal(got, want) {
		t.Errorf("%s: Off(%d): got %v, want %v", what, worker, got, want)
	}
	check(t, what+", behind Off", x, m)
	return got
}

// fill has n more records open in one way, by as few entries as it takes.
func fill(t *testing.T, x *Match, m *plain, from, to, edge int, p api.Point, n int) {
	t.Helper()
	for n > 0 {
		e := send(p, edge, to, min(n, mostOf))
		if got, want := x.Put(from, e), m.wantPut(from, e); got != 0 || want != 0 {
			t.Fatalf("Put(%d, %v): got %d, want %d", from, e, got, want)
		}
		n -= e.N
	}
}

// putting is an entry of a worker.
type putting struct {
	worker int
	e      api.Entry
}

// matchOf is a match of these, each of which must be put.
func matchOf(t *testing.T, all ...putting) (*Match, *plain) {
	t.Helper()
	x, m := New(), &plain{}
	for _, a := range all {
		put(t, "to begin with", x, m, a.worker, a.e, 0)
	}
	return x, m
}

// busy are entries after which records are open between several workers, both ways, and from one to itself.
func busy() []putting {
	p, q := at(1, 2, 3), at(0, 9, 0)
	return []putting{
		{0, send(p, 4, 1, 7)}, {1, send(p, 4, 0, 5)}, {0, send(p, 4, 0, 3)}, {2, send(p, 4, 1, 1)}, {1, send(p, 4, 2, 2)}, {6, send(q, 0, 2, 9)},
		{0, send(q, 4, 1, 4)}, {0, send(p, 5, 1, 6)}, {1, take(p, 4, 0, 2)}, {1, send(q, 0, 1, mostOf)}, {1, take(q, 0, 1, 1)}, {3, send(q, 1, 4, 8)},
	}
}

// The chapter's examples, and that of the whole: what was not sent can't be taken.
func TestExamples(t *testing.T) {
	p := at(1, 2, 3)
	x, m := matchOf(t)
	put(t, "what was not sent", x, m, 1, take(p, 4, 0, 1), over)
	put(t, "3 are sent", x, m, 0, send(p, 4, 1, 3), 0)
	put(t, "2 are taken", x, m, 1, take(p, 4, 0, 2), 0)
	if got := x.Open(0, 1, 4, p); got != 1 {
		t.Errorf("Open: got %d", got)
	}
	put(t, "2 more", x, m, 1, take(p, 4, 0, 2), over)
	if got := off(t, "one", x, m, 1); !slices.Equal(got, []api.Count{count(2, 3+node, 1)}) {
		t.Errorf("Off: got %v", got)
	}
	if x.All() != 0 || x.Open(0, 1, 4, p) != 0 {
		t.Errorf("All: got %d, Open: %d", x.All(), x.Open(0, 1, 4, p))
	}
	put(t, "what is off", x, m, 1, take(p, 4, 0, 1), over)
}

// P12.1: in a new match nothing is open, of anything.
func TestNew(t *testing.T) {
	x := New()
	if x == nil {
		t.Fatal("no match")
	}
	for _, n := range ends {
		if got := x.Off(n); len(got) != 0 {
			t.Errorf("Off(%d): got %v", n, got)
		}
		for _, other := range ends {
			for _, got := range []int{x.Open(n, other, 0, at(0, 0, 0)), x.Open(0, 1, n, at(other, 0, 0)), x.Open(0, 0, 0, at(0, n, other)), x.All()} {
				if got != 0 {
					t.Errorf("%d, %d: got %d", n, other, got)
				}
			}
		}
	}
	m := &plain{}
	for worker := range workers {
		for peer := range workers {
			put(t, "nothing is open", x, m, worker, take(at(0, 0, 0), 0, peer, 1), over)
		}
	}
	check(t, "new", x, m)
}

// P12.2, P0: any worker, Peer and N, with each kind and with some that are none. ErrArg comes ahead of ErrOver.
func TestArguments(t *testing.T) {
	p := at(1, 2, 3)
	x, m := New(), &plain{}
	for _, pair := range [][2]int{{0, 0}, {0, 6}, {6, 0}, {6, 6}, {1, 2}} {
		fill(t, x, m, pair[0], pair[1], 2, p, most)
	}
	before := m.copied()
	for _, worker := range ends {
		for _, peer := range ends {
			for _, n := range ends {
				isRight := within(worker, 0, 6) && within(peer, 0, 6) && within(n, 1, mostOf)
				isFull := m.wantOpen(worker, peer, 2, p) == most
				for _, kind := range append([]int{kSend, kTake}, others...) {
					e, want := some(kind, p, 2, peer, n), arg
					switch {
					case isRight && kind == kSend && isFull:
						want = over
					case isRight && kind == kTake && m.wantOpen(peer, worker, 2, p) == 0:
						want = over
					case isRight:
						want = 0
					}
					if got := x.May(worker, e); got != want {
						t.Errorf("May(%d, %v): got %d, want %d", worker, e, got, want)
					}
					if want == 0 {
						continue
					}
					if got := x.Put(worker, e); got != want {
						t.Errorf("Put(%d, %v): got %d, want %d", worker, e, got, want)
					}
				}
			}
		}
	}
	check(t, "asked", x, before)
}

// P12.2: worker, Peer and N that just may be, and just may not, written out; in a match in which nothing else stands against the entry.
func TestArgumentsJustWithin(t *testing.T) {
	p := at(0, 0, 0)
	cases := []struct {
		worker, peer, n int
		want            api.Errno
	}{
		{-1, 0, 1, arg}, {0, 0, 1, 0}, {6, 0, 1, 0}, {7, 0, 1, arg},
		{0, -1, 1, arg}, {0, 6, 1, 0}, {0, 7, 1, arg},
		{0, 0, -1, arg}, {0, 0, 0, arg}, {0, 0, 1000000, 0}, {0, 0, 1000001, arg},
		{6, 6, 1000000, 0}, {7, 7, 1, arg}, {-1, -1, 1, arg}, {7, -1, 0, arg}, {3, 4, 500000, 0},
	}
	for _, c := range cases {
		for _, kind := range append([]int{kSend, kTake}, others...) {
			x, m := New(), &plain{}
			if c.want == 0 && kind == kTake {
				fill(t, x, m, c.peer, c.worker, 3, p, c.n)
			}
			put(t, "just within", x, m, c.worker, some(kind, p, 3, c.peer, c.n), c.want)
		}
	}
}

// P12.2: ErrArg is returned ahead of ErrOver, though both apply.
func TestErrArgComesFirst(t *testing.T) {
	p := at(1, 1, 1)
	x, m := New(), &plain{}
	fill(t, x, m, 0, 1, 0, p, most)
	put(t, "too many are open", x, m, 0, send(p, 0, 1, 1), over)
	put(t, "too few are open", x, m, 0, take(p, 0, 1, 1), over)
	for _, n := range []int{mostOf + 1, most, math.MaxInt} {
		put(t, "an N too great, and too many are open", x, m, 0, send(p, 0, 1, n), arg)
		put(t, "an N too great, and too few are open", x, m, 0, take(p, 0, 1, n), arg)
	}
	for _, n := range []int{-1, 7, math.MinInt, math.MaxInt} {
		put(t, "no worker, and too few are open", x, m, n, take(p, 0, 1, 1), arg)
		put(t, "no Peer, and too few are open", x, m, 0, take(p, 0, n, 1), arg)
		put(t, "neither, and an N too great", x, m, n, take(p, 0, n, mostOf+1), arg)
	}
}

// P12.2: just as many records as may be open of one lane, and one beyond; the limit is that of one lane.
func TestLimitOfSend(t *testing.T) {
	p := at(7, mostOf, mostOf)
	for _, pair := range [][2]int{{0, 1}, {6, 2}, {3, 3}} {
		from, to := pair[0], pair[1]
		x, m := New(), &plain{}
		fill(t, x, m, from, to, 15, p, most-mostOf-1)
		put(t, "not quite", x, m, from, send(p, 15, to, mostOf), 0)
		put(t, "one is left", x, m, from, send(p, 15, to, 2), over)
		put(t, "one is left", x, m, from, send(p, 15, to, mostOf), over)
		put(t, "the last one", x, m, from, send(p, 15, to, 1), 0)
		put(t, "one beyond", x, m, from, send(p, 15, to, 1), over)
		put(t, "many beyond", x, m, from, send(p, 15, to, mostOf), over)
		if got := x.Open(from, to, 15, p); got != most {
			t.Errorf("got %d", got)
		}
		put(t, "another edge", x, m, from, send(p, 14, to, 1), 0)
		put(t, "another point", x, m, from, send(at(7, mostOf, 0), 15, to, mostOf), 0)
		put(t, "another worker", x, m, 5, send(p, 15, to, mostOf), 0)
		put(t, "another Peer", x, m, from, send(p, 15, 4, 3), 0)
		if got, want := x.All(), most+2*mostOf+4; got != want {
			t.Errorf("All: got %d, want %d", got, want)
		}
		put(t, "room for 5", x, m, to, take(p, 15, from, 5), 0)
		put(t, "6 are too many", x, m, from, send(p, 15, to, 6), over)
		put(t, "just 5", x, m, from, send(p, 15, to, 5), 0)
		put(t, "one beyond again", x, m, from, send(p, 15, to, 1), over)
		off(t, "the full lane", x, m, from)
		put(t, "there is room again", x, m, from, send(p, 15, to, mostOf), 0)
	}
}

// P12.2: a whole lane filled by entries of 1000000, and just to the limit.
func TestLimitByGreatEntries(t *testing.T) {
	x, m := New(), &plain{}
	for i := range most / mostOf {
		if got := x.Put(2, send(at(0, 0, 0), 0, 5, mostOf)); got != 0 {
			t.Fatalf("the entry %d: got %d", i, got)
		}
	}
	m.way(2, 5, 0, at(0, 0, 0)).sent = most
	check(t, "full", x, m)
	put(t, "one beyond", x, m, 2, send(at(0, 0, 0), 0, 5, 1), over)
	for range most / mostOf {
		if got := x.Put(5, take(at(0, 0, 0), 0, 2, mostOf)); got != 0 {
			t.Fatalf("got %d", got)
		}
	}
	m.way(2, 5, 0, at(0, 0, 0)).taken = most
	check(t, "empty", x, m)
	put(t, "one too many", x, m, 5, take(at(0, 0, 0), 0, 2, 1), over)
}

// P12.2: one less than what is open may be taken, and just that, and not one more.
func TestLimitOfTake(t *testing.T) {
	p := at(2, 0, 5)
	for _, pair := range [][2]int{{0, 1}, {5, 6}, {4, 4}} {
		from, to := pair[0], pair[1]
		for _, open := range []int{1, 2, 3, 1000, mostOf - 1, mostOf} {
			x, m := matchOf(t, putting{from, send(p, 1, to, open)})
			want := over
			if open == mostOf {
				want = arg
			}
			put(t, "one more", x, m, to, take(p, 1, from, open+1), want)
			if open > 1 {
				put(t, "one less", x, m, to, take(p, 1, from, open-1), 0)
				put(t, "one is left", x, m, to, take(p, 1, from, 2), over)
				put(t, "the last one", x, m, to, take(p, 1, from, 1), 0)
				put(t, "as many are sent again", x, m, from, send(p, 1, to, open), 0)
			}
			put(t, "just as many", x, m, to, take(p, 1, from, open), 0)
			put(t, "none is left", x, m, to, take(p, 1, from, 1), over)
		}
		x, m := New(), &plain{}
		fill(t, x, m, from, to, 1, p, mostOf+1)
		put(t, "all but one", x, m, to, take(p, 1, from, mostOf), 0)
		put(t, "that one twice", x, m, to, take(p, 1, from, 2), over)
		put(t, "that one", x, m, to, take(p, 1, from, 1), 0)
		put(t, "none is left", x, m, to, take(p, 1, from, 1), over)
	}
}

// P12.2, P12.3: a KSend goes from worker to Peer, and a KTake takes what came from Peer to worker.
func TestOtherWayRound(t *testing.T) {
	p := at(0, 1, 1)
	for from := range workers {
		for to := range workers {
			x, m := matchOf(t, putting{from, send(p, 2, to, 5)})
			if got := x.Open(from, to, 2, p); got != 5 {
				t.Errorf("%d to %d: got %d", from, to, got)
			}
			want := over
			if from == to {
				want = 0
			} else if got := x.Open(to, from, 2, p); got != 0 {
				t.Errorf("%d to %d: back: got %d", from, to, got)
			}
			put(t, "by the sender", x, m, from, take(p, 2, to, 1), want)
			put(t, "by the recipient", x, m, to, take(p, 2, from, 4), 0)
			put(t, "sent back", x, m, to, send(p, 2, from, 3), 0)
			put(t, "taken there", x, m, from, take(p, 2, to, 3), 0)
		}
	}
}

// P12.2, P12.3: records that differ in one thing alone are not counted together.
func TestLanesAreApart(t *testing.T) {
	type lane struct {
		from, to int
		e        api.Entry
	}
	one := lane{2, 3, send(at(1, 5, 6), 4, 3, 10)}
	far := []int{math.MinInt, -1, 0, 7, 8, 15, 16, mostOf + 1, math.MaxInt}
	var all []lane
	for n := range workers {
		if n != 2 {
			all = append(all, lane{n, 3, one.e})
		}
		if n != 3 {
			other := lane{2, n, one.e}
			other.e.Peer = n
			all = append(all, other)
		}
	}
	for _, n := range far {
		for _, part := range []func(*api.Entry) *int{
			func(e *api.Entry) *int { return &e.Edge },
			func(e *api.Entry) *int { return &e.Point.Node },
			func(e *api.Entry) *int { return &e.Point.T.Epoch },
			func(e *api.Entry) *int { return &e.Point.T.Round },
		} {
			other := one
			*part(&other.e) = n
			all = append(all, other)
		}
	}
	swapped := one
	swapped.e.Point = at(1, 6, 5)
	all = append(all, swapped, lane{3, 2, send(at(1, 5, 6), 4, 2, 10)})
	for i, other := range all {
		x, m := matchOf(t, putting{one.from, one.e})
		taken := take(other.e.Point, other.e.Edge, other.from, 1)
		put(t, "what was not sent that way", x, m, other.to, taken, over)
		put(t, "sent that way too", x, m, other.from, other.e, 0)
		put(t, "taken there", x, m, other.to, taken, 0)
		if got := x.Open(2, 3, 4, at(1, 5, 6)); got != 10 {
			t.Errorf("lane %d: got %d", i, got)
		}
		if got := x.Open(other.from, other.to, other.e.Edge, other.e.Point); got != 9 || x.All() != 19 {
			t.Errorf("lane %d: got %d, and %d in all", i, got, x.All())
		}
	}
	x, m := matchOf(t, putting{one.from, one.e})
	for i, other := range all {
		put(t, "all of them", x, m, other.from, other.e, 0)
		if got, want := x.All(), 10*(i+2); got != want {
			t.Errorf("All: got %d, want %d", got, want)
		}
	}
}

// P12.2: the Seq and the Prev of an entry do not matter, and nothing but Peer and N need be valid.
func TestWhatDoesNotMatter(t *testing.T) {
	p := at(3, 4, 5)
	x, m := matchOf(t, putting{0, send(p, 1, 2, 50)})
	for i, seq := range ends {
		e := take(p, 1, 0, 1)
		e.Seq, e.Prev[i%32] = seq, byte(i+1)
		put(t, "another Seq and Prev", x, m, 2, e, 0)
		e = send(p, 1, 2, 2)
		e.Seq, e.Prev[31-i%32] = seq, byte(i+1)
		put(t, "another Seq and Prev", x, m, 0, e, 0)
	}
	for _, n := range ends {
		for _, c := range []struct {
			p    api.Point
			edge int
		}{{p, n}, {at(n, 4, 5), 1}, {at(3, n, 5), 1}, {at(3, 4, n), 1}, {at(n, n, n), n}} {
			put(t, "not valid", x, m, 4, send(c.p, c.edge, 5, 3), 0)
			put(t, "not valid", x, m, 5, take(c.p, c.edge, 4, 4), over)
			put(t, "not valid", x, m, 5, take(c.p, c.edge, 4, 3), 0)
		}
	}
}

// P12.2: kinds other than KSend and KTake change nothing, whatever is open.
func TestOtherKinds(t *testing.T) {
	p := at(1, 2, 3)
	x, m := New(), &plain{}
	fill(t, x, m, 0, 1, 4, p, most)
	put(t, "to begin with", x, m, 1, send(at(0, 0, 0), 0, 0, 2), 0)
	put(t, "to begin with", x, m, 0, send(at(0, 0, 0), 0, 0, 2), 0)
	for _, kind := range others {
		for worker := range workers {
			for _, peer := range []int{0, 1, 6} {
				for _, n := range []int{1, 3, mostOf} {
					put(t, "another kind", x, m, worker, some(kind, p, 4, peer, n), 0)
					put(t, "another kind", x, m, worker, some(kind, at(0, 0, 0), 0, peer, n), 0)
				}
			}
		}
	}
	put(t, "still full", x, m, 0, send(p, 4, 1, 1), over)
	off(t, "behind other kinds", x, m, 0)
	x, m = New(), &plain{}
	for _, kind := range others {
		put(t, "nothing is open", x, m, 0, some(kind, at(0, 0, 0), 0, 0, 5), 0)
	}
	if len(x.open) != 0 {
		t.Errorf("%v is kept", x.open)
	}
}

// P12.2, R1: May changes nothing, and neither does a Put that returns an error, however often.
func TestErrorsChangeNothing(t *testing.T) {
	p, q := at(1, 2, 3), at(0, 9, 0)
	x, m := matchOf(t, busy()...)
	fill(t, x, m, 5, 6, 3, p, most)
	before := m.copied()
	refused := []struct {
		putting
		want api.Errno
	}{
		{putting{5, send(p, 3, 6, 1)}, over}, {putting{1, take(p, 4, 0, 6)}, over}, {putting{0, take(p, 4, 1, 6)}, over}, {putting{0, take(p, 4, 0, 4)}, over},
		{putting{4, take(q, 1, 3, 9)}, over}, {putting{3, take(q, 1, 4, 1)}, over}, {putting{7, send(p, 4, 1, 1)}, arg}, {putting{0, send(p, 4, 7, 1)}, arg},
		{putting{-1, take(p, 4, 0, 1)}, arg}, {putting{1, take(p, 4, -1, 1)}, arg}, {putting{1, take(p, 4, 0, 0)}, arg}, {putting{0, send(p, 4, 1, mostOf+1)}, arg},
		{putting{0, some(kHold, p, 4, 1, 0)}, arg}, {putting{0, send(p, 4, 1, -5)}, arg}, {putting{1, take(p, 4, 0, -5)}, arg},
	}
	for range 3 {
		for _, c := range refused {
			put(t, "refused", x, m, c.worker, c.e, c.want)
		}
		for _, c := range busy() {
			x.May(c.worker, c.e)
		}
	}
	check(t, "refused", x, before)
	other, n := matchOf(t, busy()...)
	fill(t, other, n, 5, 6, 3, p, most)
	for worker := range workers {
		if got, want := off(t, "refused", x, m, worker), off(t, "the other one", other, n, worker); !slices.Equal(got, want) {
			t.Errorf("Off(%d): got %v, want %v", worker, got, want)
		}
	}
}

// P12.3: Open of numbers that are no workers, and of edges and points that no record has; asking changes and keeps nothing.
func TestOpenOfOthers(t *testing.T) {
	p := at(1, 2, 3)
	x, m := matchOf(t, putting{0, send(p, 4, 1, 7)}, putting{6, send(p, 4, 6, 2)})
	for _, n := range ends {
		m.way(n, 1, 4, p)
		m.way(0, n, 4, p)
		m.way(n, n, 4, p)
		m.way(0, 1, n, p)
		m.way(0, 1, 4, at(n, 2, 3))
		m.way(0, 1, 4, at(1, n, 3))
		m.way(0, 1, 4, at(1, 2, n))
	}
	for range 3 {
		check(t, "asked", x, m)
	}
	if len(x.open) != 2 {
		t.Errorf("%v is kept", x.open)
	}
}

// P12.3: All ahead of and behind each Put and each Off, written out.
func TestAll(t *testing.T) {
	p, q := at(1, 2, 3), at(0, 0, 0)
	x := New()
	steps := []struct {
		do   func()
		want int
	}{
		{func() {}, 0},
		{func() { x.Put(0, send(p, 4, 1, 5)) }, 5},
		{func() { x.Put(0, send(p, 4, 1, 2)) }, 7},
		{func() { x.Put(1, send(p, 4, 0, 3)) }, 10},
		{func() { x.Put(1, take(p, 4, 0, 6)) }, 4},
		{func() { x.Put(1, take(p, 4, 0, 2)) }, 4},
		{func() { x.May(1, take(p, 4, 0, 1)) }, 4},
		{func() { x.Put(2, send(q, 0, 2, mostOf)) }, mostOf + 4},
		{func() { x.Put(2, some(kHold, q, 0, 2, 9)) }, mostOf + 4},
		{func() { x.Put(7, send(q, 0, 2, 1)) }, mostOf + 4},
		{func() { x.Off(3) }, mostOf + 4},
		{func() { x.Off(7) }, mostOf + 4},
		{func() { x.Off(2) }, 4},
		{func() { x.Off(0) }, 0},
		{func() { x.Off(0) }, 0},
		{func() { x.Put(0, send(p, 4, 1, 1)) }, 1},
		{func() { x.Put(1, take(p, 4, 0, 1)) }, 0},
	}
	for i, s := range steps {
		s.do()
		if got := x.All(); got != s.want {
			t.Errorf("behind step %d: got %d, want %d", i, got, s.want)
		}
	}
}

// P12.3: many full lanes are beyond the limit of one.
func TestAllOfManyFullLanes(t *testing.T) {
	x, m := New(), &plain{}
	for to := range workers {
		fill(t, x, m, 1, to, to, at(to, 0, 0), most)
	}
	if got := x.All(); got != workers*most {
		t.Errorf("got %d", got)
	}
	off(t, "full lanes", x, m, 1)
}

// P12.4: Off of each worker, of which records are open both ways, to itself (once), or not at all; and what it leaves.
func TestOff(t *testing.T) {
	cases := []struct {
		worker int
		want   []api.Count
		left   int
	}{
		{0, []api.Count{count(9, 0, 4), count(2, 3+node, 5+5+3+6)}, 1 + 2 + 9 + mostOf - 1 + 8},
		{1, []api.Count{count(9, 0, 4+mostOf-1), count(2, 3+node, 5+5+1+2+6)}, 3 + 9 + 8},
		{2, []api.Count{count(9, 0, 9), count(2, 3+node, 1+2)}, 5 + 5 + 3 + 4 + 6 + mostOf - 1 + 8},
		{3, []api.Count{count(9, 0, 8)}, 5 + 5 + 3 + 1 + 2 + 9 + 4 + 6 + mostOf - 1},
		{4, []api.Count{count(9, 0, 8)}, 5 + 5 + 3 + 1 + 2 + 9 + 4 + 6 + mostOf - 1},
		{5, nil, 5 + 5 + 3 + 1 + 2 + 9 + 4 + 6 + mostOf - 1 + 8},
		{6, []api.Count{count(9, 0, 9)}, 5 + 5 + 3 + 1 + 2 + 4 + 6 + mostOf - 1 + 8},
	}
	for _, c := range cases {
		x, m := matchOf(t, busy()...)
		if got := off(t, "busy", x, m, c.worker); !slices.Equal(got, c.want) {
			t.Errorf("Off(%d): got %v, want %v", c.worker, got, c.want)
		}
		if got := x.All(); got != c.left {
			t.Errorf("Off(%d): %d are left, not %d", c.worker, got, c.left)
		}
		if got := off(t, "again", x, m, c.worker); len(got) != 0 {
			t.Errorf("Off(%d) again: got %v", c.worker, got)
		}
		for _, a := range busy() {
			if a.e.Kind != kSend || a.worker != c.worker && a.e.Peer != c.worker {
				continue
			}
			put(t, "it is open no more", x, m, a.e.Peer, take(a.e.Point, a.e.Edge, a.worker, 1), over)
			put(t, "it is sent again", x, m, a.worker, a.e, 0)
		}
		for worker := range workers {
			off(t, "all of them", x, m, worker)
		}
		if x.All() != 0 || len(x.open) != 0 {
			t.Errorf("%v is kept", x.open)
		}
	}
}

// P12.4, P0: Off of what is no worker gives nothing, and removes nothing.
func TestOffOfNoWorker(t *testing.T) {
	x, m := matchOf(t, busy()...)
	for _, n := range ends {
		if within(n, 0, 6) {
			continue
		}
		if got := off(t, "no worker", x, m, n); len(got) != 0 {
			t.Errorf("Off(%d): got %v", n, got)
		}
	}
	if got := x.All(); got != 5+5+3+1+2+9+4+6+mostOf-1+8 {
		t.Errorf("All: got %d", got)
	}
}

// P12.4: what is open from a worker to itself is counted once, also where nothing else is open.
func TestOffOfWhatIsToItself(t *testing.T) {
	for worker := range workers {
		x, m := matchOf(t, putting{worker, send(at(0, 1, 2), 3, worker, 4)}, putting{worker, send(at(0, 1, 2), 2, worker, 10)})
		if got := off(t, "to itself", x, m, worker); !slices.Equal(got, []api.Count{count(1, 2, 14)}) {
			t.Errorf("Off(%d): got %v", worker, got)
		}
	}
}

// P12.4: what Off removes of one worker it removes of its Peers.
func TestOffOfBothSides(t *testing.T) {
	p := at(0, 1, 1)
	x, m := matchOf(t, putting{0, send(p, 0, 1, 4)}, putting{1, send(p, 0, 0, 2)}, putting{1, send(p, 0, 2, 8)})
	if got := off(t, "the one", x, m, 0); !slices.Equal(got, []api.Count{count(1, 1, 6)}) {
		t.Errorf("got %v", got)
	}
	if got := off(t, "the other one", x, m, 1); !slices.Equal(got, []api.Count{count(1, 1, 8)}) {
		t.Errorf("got %v", got)
	}
	if got := off(t, "the third one", x, m, 2); len(got) != 0 {
		t.Errorf("got %v", got)
	}
}

// P12.4: what was taken, or was off, is in no result, and is not kept.
func TestNothingIsLeft(t *testing.T) {
	x, m := New(), &plain{}
	for round := range 4 {
		for from := range workers {
			for to := range workers {
				p := at(from, to, round)
				put(t, "sent", x, m, from, send(p, to, to, 3), 0)
				put(t, "taken", x, m, to, take(p, to, from, 1), 0)
				put(t, "taken", x, m, to, take(p, to, from, 2), 0)
			}
		}
		for worker := range workers {
			if got := off(t, "taken", x, m, worker); len(got) != 0 {
				t.Errorf("Off(%d): got %v", worker, got)
			}
		}
	}
	if len(x.open) != 0 {
		t.Errorf("%v is kept", x.open)
	}
}

// P12.4: results are ordered by the point's Node, and those of one Node by its T: by Epoch, then by Round.
func TestOffOrder(t *testing.T) {
	points := []api.Point{
		at(0, 0, 0), at(0, 0, 1), at(0, 0, mostOf), at(0, 1, 0), at(0, 1, 7), at(0, 2, 3), at(0, mostOf, 0),
		at(1, 0, 5), at(1, 1, 4), at(2, 0, 0), at(2, 0, 9), at(2, 3, 3), at(6, 8, 8), at(7, 0, 0), at(7, 0, mostOf), at(7, mostOf, mostOf),
	}
	var want []api.Count
	for i, p := range points {
		want = append(want, count(p.T.Epoch, p.T.Round+node*p.Node, 10+i))
	}
	r := rand.New(rand.NewSource(121))
	for range 50 {
		order := r.Perm(len(points))
		x, m := New(), &plain{}
		for _, i := range order {
			// Several lanes of one point go into one sum: out, in and to itself.
			fill(t, x, m, 3, i%workers, i, points[i], 4)
			fill(t, x, m, 5, 3, i, points[i], 5)
			fill(t, x, m, 3, 3, i+1, points[i], 1+i)
			fill(t, x, m, 4, 5, i, points[i], 100)
		}
		if got := off(t, "ordered", x, m, 3); !slices.Equal(got, want) {
			t.Errorf("%v: got %v, want %v", order, got, want)
		}
	}
}

// P12.4: there is one sum for each point, even where the Nodes make up for the Rounds; and Nodes come first, whatever the Rounds become.
func TestOffOfPointsThatLookAlike(t *testing.T) {
	x, m := matchOf(t, putting{0, send(at(1, 5, 0), 0, 1, 2)}, putting{0, send(at(0, 5, node), 0, 1, 3)}, putting{0, send(at(2, 0, 0), 0, 1, 4)}, putting{0, send(at(-1, 5, 2*node), 0, 1, 5)}, putting{0, send(at(0, 4, 3*node), 0, 1, 6)})
	want := []api.Count{count(5, node, 5), count(4, 3*node, 6), count(5, node, 3), count(5, node, 2), count(0, 2*node, 4)}
	if got := off(t, "alike", x, m, 1); !slices.Equal(got, want) {
		t.Errorf("got %v, want %v", got, want)
	}
}

// P12.4: Nodes, Epochs, Rounds and edges that are negative, or as great as an int can be; the Round of a result wraps around, and the order is that of the points.
func TestOffWrapsAround(t *testing.T) {
	cases := []struct {
		p     api.Point
		round int
	}{
		{at(math.MinInt, 0, 0), 0},
		{at(math.MinInt, 0, 5), 5},
		{at(math.MinInt+1, 0, 0), node},
		{at(-2, math.MinInt, math.MinInt), math.MaxInt - 2*node + 1},
		{at(-2, math.MinInt, math.MinInt+2*node-1), math.MaxInt},
		{at(-2, math.MinInt, math.MinInt+2*node), math.MinInt},
		{at(-2, -1, 0), -2 * node},
		{at(-1, -1, -3), -node - 3},
		{at(-1, 0, math.MaxInt), math.MaxInt - node},
		{at(0, -7, math.MaxInt), math.MaxInt},
		{at(0, 0, math.MinInt), math.MinInt},
		{at(0, 0, -1), -1},
		{at(0, 0, 0), 0},
		{at(1, 0, math.MinInt), math.MinInt + node},
		{at(1, 0, -node), 0},
		{at(1, 0, 0), node},
		{at(1, 0, math.MaxInt-node), math.MaxInt},
		{at(1, 0, math.MaxInt-node+1), math.MinInt},
		{at(1, 0, math.MaxInt), math.MinInt + node - 1},
		{at(1, math.MaxInt, 2), node + 2},
		{at(8, 0, 0), 8 * node},
		{at(math.MaxInt, 0, 0), -node},
		{at(math.MaxInt, 0, node), 0},
		{at(math.MaxInt, 0, math.MaxInt), math.MaxInt - node},
		{at(math.MaxInt, math.MaxInt, math.MaxInt), math.MaxInt - node},
	}
	r := rand.New(rand.NewSource(122))
	for range 30 {
		order := r.Perm(len(cases))
		x, m := New(), &plain{}
		for _, i := range order {
			for j, edge := range []int{math.MinInt, -1, 16, math.MaxInt} {
				fill(t, x, m, 2, j, edge, cases[i].p, 1+i)
				fill(t, x, m, j, 2, edge, cases[i].p, 1)
			}
		}
		var want []api.Count
		for i, c := range cases {
			want = append(want, count(c.p.T.Epoch, c.round, 4*(1+i)+4))
		}
		if got := off(t, "wrapped", x, m, 2); !slices.Equal(got, want) {
			t.Errorf("%v: got %v, want %v", order, got, want)
		}
	}
}

// spoil overwrites a list, up to the end of its memory.
func spoil(l []api.Count) {
	l = l[:cap(l)]
	for i := range l {
		l[i] = count(-77, -77, -77)
	}
}

// R3: what a caller writes into a result of Off, or behind its end, reaches neither the match nor another result; and a result stays as it was.
func TestResultsAreTheCallersOwn(t *testing.T) {
	x, m := matchOf(t, busy()...)
	zero := off(t, "0", x, m, 0)
	want := slices.Clone(zero)
	one := off(t, "1", x, m, 1)
	spoil(one)
	check(t, "spoilt", x, m)
	off(t, "2", x, m, 2)
	for _, a := range busy() {
		if a.e.Kind == kSend {
			put(t, "again", x, m, a.worker, a.e, 0)
		}
	}
	spoil(off(t, "0 again", x, m, 0))
	check(t, "spoilt", x, m)
	if !slices.Equal(zero, want) {
		t.Errorf("a result became %v, not %v", zero, want)
	}
	for worker := range workers {
		spoil(off(t, "all of them", x, m, worker))
	}
	check(t, "spoilt", x, m)
}

// R3: the entries that are handed in are not modified.
func TestEntriesStayAsTheyAre(t *testing.T) {
	x := New()
	var entries []api.Entry
	for _, a := range busy() {
		entries = append(entries, a.e, some(kHold, a.e.Point, a.e.Edge, a.e.Peer, a.e.N), take(a.e.Point, 9, -1, 0))
	}
	for i := range entries {
		entries[i].Seq, entries[i].Prev[i%32] = i, byte(i+1)
	}
	before := slices.Clone(entries)
	for i := range entries {
		x.May(i%workers, entries[i])
		x.Put(i%workers, entries[i])
		x.Off(i % 3)
	}
	if !slices.Equal(entries, before) {
		t.Error("entries were modified")
	}
}

// P12.1: two matches share nothing.
func TestMatchesAreApart(t *testing.T) {
	one, m := matchOf(t, busy()...)
	other, n := New(), m.copied()
	for i := range n.ways {
		n.ways[i].taken = n.ways[i].sent
	}
	check(t, "the other one", other, n)
	put(t, "the other one", other, n, 0, send(at(1, 2, 3), 4, 1, 9), 0)
	check(t, "the one", one, m)
	off(t, "the one", one, m, 1)
	check(t, "the other one", other, n)
}

// interleaved calls f with each way of putting two rows of entries into one, each row in its order.
func interleaved(a, b []putting, ahead []putting, f func([]putting)) {
	if len(a) == 0 && len(b) == 0 {
		f(ahead)
		return
	}
	if len(a) > 0 {
		interleaved(a[1:], b, append(slices.Clone(ahead), a[0]), f)
	}
	if len(b) > 0 {
		interleaved(a, b[1:], append(slices.Clone(ahead), b[0]), f)
	}
}

// P12.5: the entries of two workers that do not take from one another lead to the same in any order, errors among them.
func TestOrderOfIndependentWorkers(t *testing.T) {
	p, q := at(1, 2, 3), at(0, 0, 0)
	begin := []putting{{2, send(p, 0, 0, 5)}, {2, send(p, 0, 1, 5)}, {2, send(q, 1, 1, 2)}, {0, send(p, 0, 2, 3)}}
	one := []putting{{0, send(p, 0, 1, 3)}, {0, take(p, 0, 2, 4)}, {0, send(p, 0, 2, 2)}, {0, take(p, 0, 2, 2)}, {0, send(q, 3, 0, 1)}, {0, take(q, 3, 0, 1)}}
	two := []putting{{1, take(p, 0, 2, 5)}, {1, send(p, 0, 0, 6)}, {1, take(q, 1, 2, 3)}, {1, take(q, 1, 2, 2)}, {1, send(p, 0, 2, 1)}, {1, some(kDrop, p, 0, 2, 1)}}
	wants := map[putting]api.Errno{one[3]: over, two[2]: over}
	runs := 0
	interleaved(one, two, nil, func(all []putting) {
		runs++
		x, m := matchOf(t, begin...)
		for _, a := range all {
			if got := x.Put(a.worker, a.e); got != wants[a] {
				t.Errorf("%v: Put(%d, %v): got %d, want %d", all, a.worker, a.e, got, wants[a])
			}
			m.wantPut(a.worker, a.e)
		}
		check(t, "in another order", x, m)
		if x.All() != 16 || x.Open(0, 1, 0, p) != 3 || x.Open(1, 0, 0, p) != 6 || x.Open(2, 0, 0, p) != 1 || x.Open(0, 2, 0, p) != 5 || x.Open(1, 2, 0, p) != 1 {
			t.Errorf("%v: %d in all", all, x.All())
		}
		if got := x.Off(0); !slices.Equal(got, []api.Count{count(2, 3+node, 15)}) {
			t.Errorf("%v: Off: got %v", all, got)
		}
	})
	if runs != 924 {
		t.Errorf("%d orders", runs)
	}
}

// P12.5: entries of three workers that take only from others, in any order of the workers.
func TestOrderByChance(t *testing.T) {
	r := rand.New(rand.NewSource(123))
	p := []api.Point{at(0, 0, 0), at(1, 0, 0), at(0, 0, 1)}
	for range 200 {
		begin := []putting{{6, send(p[0], 0, 0, 9)}, {6, send(p[1], 1, 1, 9)}, {5, send(p[2], 0, 2, 9)}, {5, send(p[0], 1, 1, 9)}}
		rows := make([][]putting, 3)
		var order []int
		for worker := range rows {
			for range 12 {
				e := some([]int{kSend, kTake, kTake, kHold}[r.Intn(4)], p[r.Intn(3)], r.Intn(2), r.Intn(workers), 1+r.Intn(4))
				if e.Kind == kTake {
					e.Peer = 5 + r.Intn(2)
				}
				rows[worker] = append(rows[worker], putting{worker, e})
				order = append(order, worker)
			}
		}
		var first *Match
		var results [3][]api.Errno
		for run := range 5 {
			x, _ := matchOf(t, begin...)
			var done [3]int
			var got [3][]api.Errno
			for _, worker := range order {
				a := rows[worker][done[worker]]
				done[worker]++
				got[worker] = append(got[worker], x.Put(a.worker, a.e))
			}
			if run == 0 {
				first, results = x, got
			}
			for worker := range rows {
				if !slices.Equal(got[worker], results[worker]) {
					t.Errorf("%v: got %v, then %v", rows, results[worker], got[worker])
				}
			}
			same(t, x, first)
			r.Shuffle(len(order), func(i, j int) { order[i], order[j] = order[j], order[i] })
		}
	}
}

// same holds what is open in two matches against each other, by points and workers of which there may be some.
func same(t *testing.T, x, y *Match) {
	t.Helper()
	if x.All() != y.All() {
		t.Errorf("All: got %d and %d", x.All(), y.All())
	}
	for from := range workers {
		for to := range workers {
			for edge := range 2 {
				for _, p := range []api.Point{at(0, 0, 0), at(1, 0, 0), at(0, 0, 1)} {
					if got, want := x.Open(from, to, edge, p), y.Open(from, to, edge, p); got != want {
						t.Errorf("Open(%d, %d, %d, %v): got %d and %d", from, to, edge, p, got, want)
					}
				}
			}
		}
	}
}

// P12.5: if as many are taken as were sent, in any order that was permitted, none is open.
func TestAsManyTakenAsSent(t *testing.T) {
	r := rand.New(rand.NewSource(124))
	for range 200 {
		x, m := New(), &plain{}
		for range 60 {
			worker, e := someEntry(r, m)
			put(t, "some", x, m, worker, e, m.wantMay(worker, e))
		}
		rest := slices.Clone(m.ways)
		r.Shuffle(len(rest), func(i, j int) { rest[i], rest[j] = rest[j], rest[i] })
		for _, w := range rest {
			for open := w.sent - w.taken; open > 0; {
				n := min(open, 1+r.Intn(mostOf))
				put(t, "the rest", x, m, w.to, take(w.p, w.edge, w.from, n), 0)
				open -= n
			}
		}
		if x.All() != 0 || len(x.open) != 0 {
			t.Errorf("%d are open", x.All())
		}
		for worker := range workers {
			if got := off(t, "none", x, m, worker); len(got) != 0 {
				t.Errorf("Off(%d): got %v", worker, got)
			}
		}
	}
}

// someEntry is one of a worker that has a good chance of being put.
func someEntry(r *rand.Rand, m *plain) (int, api.Entry) {
	part := func() int { return []int{0, 0, 0, 1, 1, 2, -1, mostOf, math.MinInt, math.MaxInt}[r.Intn(10)] }
	amount := []int{1, 1, 2, 3, 5, 1000, mostOf - 1, mostOf}[r.Intn(8)]
	worker := r.Intn(4)
	e := some(1+r.Intn(5), at(part(), part(), part()), part(), r.Intn(4), amount)
	if len(m.ways) > 0 && r.Intn(2) == 0 {
		w := m.ways[r.Intn(len(m.ways))]
		worker, e.Peer, e.Edge, e.Point = w.from, w.to, w.edge, w.p
		if e.Kind != kSend {
			worker, e.Peer, e.Kind = w.to, w.from, kTake
			e.N = min(mostOf, max(1, w.sent-w.taken+r.Intn(4)-2))
		}
	}
	switch r.Intn(30) {
	case 0:
		worker = ends[r.Intn(len(ends))]
	case 1:
		e.Peer = ends[r.Intn(len(ends))]
	case 2:
		e.N = ends[r.Intn(len(ends))]
	case 3:
		e.Kind = ends[r.Intn(len(ends))]
	}
	return worker, e
}

// P12.2 to P12.5 by their words: entries and Offs at random, step by step; the number of open records is never negative.
func TestByChance(t *testing.T) {
	r := rand.New(rand.NewSource(125))
	seen := map[[2]int]int{}
	for range 300 {
		x, m := New(), &plain{}
		for range 80 {
			if r.Intn(12) == 0 {
				worker := r.Intn(5)
				if got := off(t, "by chance", x, m, worker); len(got) > 1 {
					seen[[2]int{0, 0}]++
				}
			}
			worker, e := someEntry(r, m)
			want := m.wantMay(worker, e)
			put(t, "by chance", x, m, worker, e, want)
			seen[[2]int{e.Kind, int(want)}]++
			for _, w := range m.ways {
				if got := x.Open(w.from, w.to, w.edge, w.p); got < 0 || got > most {
					t.Fatalf("Open(%d, %d, %d, %v): got %d", w.from, w.to, w.edge, w.p, got)
				}
			}
		}
	}
	for _, both := range [][2]int{{0, 0}, {kSend, 0}, {kSend, int(arg)}, {kTake, 0}, {kTake, int(arg)}, {kTake, int(over)}, {kHold, 0}} {
		if seen[both] < 100 {
			t.Errorf("only these results: %v", seen)
		}
	}
}

// P12.2 to P12.4 by their words: all sequences of a few steps.
func TestSmallMatches(t *testing.T) {
	p, q := at(0, 0, 1), at(1, 0, 0)
	steps := []putting{
		{0, send(p, 0, 1, 2)}, {1, take(p, 0, 0, 1)}, {1, send(p, 0, 0, 1)}, {0, take(p, 0, 1, 2)}, {0, send(q, 0, 0, 1)},
		{0, take(q, 0, 0, 1)}, {1, send(q, 0, 2, 1)}, {2, take(q, 0, 1, 1)}, {0, some(kHold, p, 0, 1, 1)},
	}
	// A step with a number behind the last one is an Off of worker 0 or 1.
	var walk func(l []int, depth int)
	walk = func(l []int, depth int) {
		x, m := New(), &plain{}
		for _, i := range l {
			if i >= len(steps) {
				off(t, "a small match", x, m, i-len(steps))
				continue
			}
			a := steps[i]
			if got, want := x.Put(a.worker, a.e), m.wantPut(a.worker, a.e); got != want {
				t.Fatalf("%v: Put(%d, %v): got %d, want %d", l, a.worker, a.e, got, want)
			}
		}
		check(t, "a small match", x, m)
		for i := range len(steps) + 2 {
			if depth > 0 {
				walk(append(slices.Clone(l), i), depth-1)
			}
		}
	}
	walk(nil, 4)
}

// R4: a result does not depend on how the map is gone through, nor on the order in which records came to be open.
func TestResultsRepeat(t *testing.T) {
	const n = 300
	var want []api.Count
	for run := range 8 {
		x := New()
		for i := range n {
			k := i
			if run%2 == 1 {
				k = n - 1 - i
			}
			x.Put(k%workers, send(at(k%8, k%13, k%17), k%5, 3, 1+k))
			x.Put(3, send(at(k%8, k%13, k%17), k%5, k%workers, 1+k))
		}
		got := x.Off(3)
		if run == 0 {
			want = got
		}
		if len(got) < 200 || !slices.Equal(got, want) {
			t.Fatalf("run %d: got %v, want %v", run, got, want)
		}
	}
}

// R4, R5: matches that are used by a goroutine each don't disturb one another.
func TestTogether(t *testing.T) {
	var all sync.WaitGroup
	for i := range 8 {
		x, m, r := New(), &plain{}, rand.New(rand.NewSource(int64(i%2)))
		all.Go(func() {
			for range 200 {
				worker, e := someEntry(r, m)
				if got, want := x.Put(worker, e), m.wantPut(worker, e); got != want {
					t.Errorf("Put(%d, %v): got %d, want %d", worker, e, got, want)
				}
			}
			off(t, "together", x, m, i%4)
		})
	}
	all.Wait()
}

// P0: records are open in very many lanes; none of them is refused, and each is found.
func TestManyLanes(t *testing.T) {
	const n = 60000
	x := New()
	for i := range n {
		if got := x.Put(i%workers, send(at(i%8, i, n-i), i%16, i%5, 1+i)); got != 0 {
			t.Fatalf("Put %d: got %d", i, got)
		}
	}
	if got, want := x.All(), n*(n+1)/2; got != want {
		t.Errorf("All: got %d, want %d", got, want)
	}
	for i := range n {
		if got := x.Open(i%workers, i%5, i%16, at(i%8, i, n-i)); got != 1+i {
			t.Fatalf("Open %d: got %d", i, got)
		}
	}
	all, left := 0, n*(n+1)/2
	for worker := range workers {
		got := x.Off(worker)
		all += len(got)
		for _, c := range got {
			left -= c.N
		}
		if x.All() != left {
			t.Errorf("Off(%d): All is %d, not %d", worker, x.All(), left)
		}
	}
	if all != n || left != 0 {
		t.Errorf("got %d, and %d are left", all, left)
	}
}

// P0, P12.2 to P12.4: any calls at all; eight bytes are an entry of a worker, or an Off.
func FuzzMatch(f *testing.F) {
	f.Add([]byte{0, 3, 1, 2, 3, 4, 1, 3, 1, 4, 1, 2, 3, 4, 0, 2, 1, 4, 1, 2, 3, 4, 0, 2, 1, 99, 0, 0, 0, 0, 0, 0})
	f.Add([]byte{})
	f.Add([]byte{0, 3, 0, 0, 0, 0, 0, 255, 0, 3, 1, 251, 250, 0, 0, 9, 0, 99, 0, 0, 0, 0, 0, 0})
	f.Add([]byte{251, 3, 0, 0, 0, 0, 1, 5, 2, 3, 240, 0, 250, 0, 2, 245, 2, 4, 240, 0, 250, 0, 2, 245, 2, 4, 240, 0, 250, 0, 2, 1})
	part := func(n byte) int {
		if n < 234 {
			return int(n % 7)
		}
		return ends[int(n-234)%len(ends)]
	}
	f.Fuzz(func(t *testing.T, text []byte) {
		x, m := New(), &plain{}
		// Each step is held against all ways, so that the time grows with the square of their number.
		for text = text[:min(len(text), 800)]; len(text) >= 8; text = text[8:] {
			worker := part(text[0])
			if text[1] == 99 {
				off(t, "behind a call", x, m, worker)
				continue
			}
			e := some(part(text[1]), at(part(text[2]), part(text[3]), part(text[4])), part(text[5]), part(text[6]), part(text[7]))
			put(t, "behind a call", x, m, worker, e, m.wantMay(worker, e))
		}
		for worker := range workers {
			off(t, "at the end", x, m, worker)
		}
		if x.All() != 0 {
			t.Errorf("%d are open", x.All())
		}
	})
}
