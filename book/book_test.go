package book

import (
	"math"
	"math/rand"
	"slices"
	"sync"
	"testing"

	"garboard/api"
	"garboard/graph"
	"garboard/reach"
)

// The limits, the errors and the kinds, by their numbers, so that no test leans on the constants.
const (
	mostNodes = 8
	mostEdges = 16
	mostPart  = 1000000
	mostN     = 1000000
	most      = 1000000000

	form = api.Errno(2)
	hold = api.Errno(8)
	over = api.Errno(9)

	kHold = 1
	kDrop = 2
	kSend = 3
	kTake = 4
	kFeed = 5
)

// kinds are all kinds.
var kinds = []int{kHold, kDrop, kSend, kTake, kFeed}

// ends are numbers around the limits of the fields, and the type's own ends.
var ends = []int{
	math.MinInt, math.MinInt + 1, -mostPart - 1, -mostPart, -2, -1, 0, 1, 2, 5, 6, 7, 8, 9, 15, 16, 17,
	mostPart - 1, mostPart, mostPart + 1, most, most + 1, math.MaxInt - 1, math.MaxInt,
}

func at(node, epoch, round int) api.Point {
	return api.Point{Node: node, T: st(epoch, round)}
}

func st(epoch, round int) api.Stamp { return api.Stamp{Epoch: epoch, Round: round} }

func count(epoch, round, n int) api.Count { return api.Count{T: st(epoch, round), N: n} }

func edge(from, to, epoch, round int) api.Edge {
	return api.Edge{From: from, To: to, Path: api.Path{Epoch: epoch, Round: round}}
}

func graphOf(nodes int, edges ...api.Edge) api.Graph {
	return api.Graph{Nodes: nodes, Edges: edges}
}

// some is an entry of a kind, but for its number and what it follows.
func some(kind int, p api.Point, edge, n int) api.Entry {
	return api.Entry{Kind: kind, Point: p, Edge: edge, N: n}
}

func feed(p api.Point, n int) api.Entry       { return some(kFeed, p, 0, n) }
func holds(p api.Point, n int) api.Entry      { return some(kHold, p, 0, n) }
func drop(p api.Point, n int) api.Entry       { return some(kDrop, p, 0, n) }
func send(p api.Point, edge, n int) api.Entry { return some(kSend, p, edge, n) }
func take(p api.Point, edge, n int) api.Entry { return some(kTake, p, edge, n) }

// looped has an edge from each node to itself, a round later: the edge of the node's number.
func looped(nodes int) api.Graph {
	g := graphOf(nodes)
	for node := range nodes {
		g.Edges = append(g.Edges, edge(node, node, 0, 1))
	}
	return g
}

// within, valid, lessEq, ahead and right are in the document's words, so that no test leans on the layers below.
func within(n, least, greatest int) bool { return least <= n && n <= greatest }

func valid(t api.Stamp) bool { return within(t.Epoch, 0, mostPart) && within(t.Round, 0, mostPart) }

func lessEq(a, b api.Stamp) bool { return a.Epoch <= b.Epoch && a.Round <= b.Round }

func ahead(a, b api.Stamp) bool {
	return a.Epoch < b.Epoch || a.Epoch == b.Epoch && a.Round < b.Round
}

func right(e api.Entry) bool {
	return within(e.Kind, 1, 5) && within(e.Seq, 0, 1000000) && within(e.Point.Node, 0, 7) && valid(e.Point.T) &&
		within(e.Edge, 0, 15) && within(e.Peer, 0, 6) && within(e.N, 1, mostN)
}

// plain is a book by the document's words: a graph, and how often each point is held, zeros among them.
type plain struct {
	g      api.Graph
	counts map[api.Point]int
}

// hasForm is the ErrForm of P11.2.
func (m plain) hasForm(e api.Entry) bool {
	if !right(e) || e.Point.Node >= m.g.Nodes {
		return true
	}
	along := e.Kind == kSend || e.Kind == kTake
	return along && (e.Edge >= len(m.g.Edges) || m.g.Edges[e.Edge].To != e.Point.Node)
}

// hasHold is the ErrHold of P11.2.
func (m plain) hasHold(e api.Entry) bool {
	switch e.Kind {
	case kFeed:
		return e.Seq != 0 || e.Point.Node != 0
	case kHold:
		for p, n := range m.counts {
			if n > 0 && p.Node == e.Point.Node && lessEq(p.T, e.Point.T) {
				return false
			}
		}
		return true
	case kSend:
		by := m.g.Edges[e.Edge]
		for p, n := range m.counts {
			after := st(p.T.Epoch+by.Path.Epoch, p.T.Round+by.Path.Round)
			if n > 0 && p.Node == by.From && valid(after) && lessEq(after, e.Point.T) {
				return false
			}
		}
		return true
	}
	return false
}

// hasOver is the ErrOver of P11.2.
func (m plain) hasOver(e api.Entry) bool {
	switch e.Kind {
	case kDrop:
		return m.counts[e.Point] < e.N
	case kFeed, kHold, kTake:
		return m.counts[e.Point]+e.N > most
	}
	return false
}

// wantMay is May by the words of P11.2.
func (m plain) wantMay(e api.Entry) api.Errno {
	switch {
	case m.hasForm(e):
		return form
	case m.hasHold(e):
		return hold
	case m.hasOver(e):
		return over
	}
	return 0
}

// wantEnter enters as Enter should, by the words of P11.3.
func (m plain) wantEnter(e api.Entry) api.Errno {
	if err := m.wantMay(e); err != 0 {
		return err
	}
	switch e.Kind {
	case kFeed, kHold, kTake:
		m.counts[e.Point] += e.N
	case kDrop:
		m.counts[e.Point] -= e.N
	}
	return 0
}

// wantHolds is Holds by the words of P11.3 and P4.2.
func (m plain) wantHolds(node int) []api.Count {
	var all []api.Count
	for p, n := range m.counts {
		if p.Node == node && n != 0 {
			all = append(all, api.Count{T: p.T, N: n})
		}
	}
	slices.SortFunc(all, func(a, b api.Count) int {
		if ahead(a.T, b.T) {
			return -1
		}
		return 1
	})
	return all
}

// wantMoves is Moves by the words of P11.4.
func wantMoves(e api.Entry) (api.Point, int) {
	if e.Kind == kFeed || e.Kind == kHold || e.Kind == kSend {
		return e.Point, e.N
	}
	if e.Kind == kDrop {
		return e.Point, -e.N
	}
	return e.Point, 0
}

// newBook is a book of a graph that is expected to have one, and what it is held against.
func newBook(t *testing.T, g api.Graph) (*Book, plain) {
	t.Helper()
	b, err := New(g)
	if err != 0 || b == nil {
		t.Fatalf("New(%v): got %v %d", g, b, err)
	}
	return b, plain{g, map[api.Point]int{}}
}

// bookOf is a book of g with these entries, each of which must be permitted.
func bookOf(t *testing.T, g api.Graph, entries ...api.Entry) (*Book, plain) {
	t.Helper()
	b, m := newBook(t, g)
	for _, e := range entries {
		enter(t, "to begin with", b, m, e, 0)
	}
	return b, m
}

// enter asks for an entry and enters it, with the result that is expected, in the book and in what it is held against.
func enter(t *testing.T, what string, b *Book, m plain, e api.Entry, want api.Errno) {
	t.Helper()
	if got := b.May(e); got != want {
		t.Errorf("%s: May(%v): got %d, want %d", what, e, got, want)
	}
	if got := b.Enter(e); got != want {
		t.Errorf("%s: Enter(%v): got %d, want %d", what, e, got, want)
	}
	if got := m.wantEnter(e); got != want {
		t.Fatalf("%s: the test is wrong: %v: %d, not %d", what, e, got, want)
	}
}

// mayBe asks for an entry, with the result that is expected, and holds what is held afterwards against m.
func mayBe(t *testing.T, what string, b *Book, m plain, e api.Entry, want api.Errno) {
	t.Helper()
	if got := b.May(e); got != want || m.wantMay(e) != want {
		t.Errorf("%s: May(%v): got %d, want %d", what, e, got, want)
	}
	check(t, what, b, m)
}

// fill has a point held n times, by as few KFeeds as it takes at node 0, or KTakes along an edge.
func fill(t *testing.T, b *Book, m plain, p api.Point, along, n int) {
	t.Helper()
	for n > 0 {
		e := take(p, along, min(n, mostN))
		if p.Node == 0 {
			e.Kind = kFeed
		}
		enter(t, "to begin with", b, m, e, 0)
		n -= e.N
	}
}

// check holds what is held at each node against that of m, and at numbers that are no nodes.
func check(t *testing.T, what string, b *Book, m plain) {
	t.Helper()
	for node := range m.g.Nodes {
		if got, want := b.Holds(node), m.wantHolds(node); !slices.Equal(got, want) {
			t.Errorf("%s: Holds(%d): got %v, want %v", what, node, got, want)
		}
	}
	for _, node := range []int{-1, m.g.Nodes, mostNodes} {
		if got := b.Holds(node); len(got) != 0 {
			t.Errorf("%s: Holds(%d): got %v", what, node, got)
		}
	}
}

// checkAll holds what is held and what is permitted against m, the latter by these entries.
func checkAll(t *testing.T, what string, b *Book, m plain, entries []api.Entry) {
	t.Helper()
	check(t, what, b, m)
	for _, e := range entries {
		if got, want := b.May(e), m.wantMay(e); got != want {
			t.Errorf("%s: May(%v): got %d, want %d", what, e, got, want)
		}
	}
}

// The chapter's examples, and those of the whole.
func TestExamples(t *testing.T) {
	g := graphOf(2, edge(0, 1, 0, 1))
	b, m := newBook(t, g)
	enter(t, "nothing is held", b, m, send(at(1, 0, 1), 0, 1), hold)
	enter(t, "the feed", b, m, feed(at(0, 0, 0), 1), 0)
	enter(t, "too early", b, m, send(at(1, 0, 0), 0, 1), hold)
	enter(t, "at once", b, m, send(at(1, 0, 1), 0, 1), 0)
	enter(t, "later", b, m, send(at(1, 3, 2), 0, 1), 0)
	check(t, "the feed is held", b, m)
	enter(t, "twice", b, m, drop(at(0, 0, 0), 2), over)
	enter(t, "once", b, m, drop(at(0, 0, 0), 1), 0)
	enter(t, "once more", b, m, drop(at(0, 0, 0), 1), over)
	check(t, "nothing is held", b, m)
	b, m = bookOf(t, g, feed(at(0, 0, 0), 1))
	enter(t, "once", b, m, drop(at(0, 0, 0), 1), 0)
	enter(t, "what it does not hold", b, m, send(at(1, 0, 1), 0, 1), hold)
}

// doubled leads from node 0 to node hops by two edges for each hop, with 2 to the power of hops incomparable sums.
func doubled(nodes, hops int) api.Graph {
	g := graphOf(nodes)
	for i := range hops {
		g.Edges = append(g.Edges, edge(i, i+1, 1<<i, 0), edge(i, i+1, 0, 1<<i))
	}
	return g
}

// P11.1: graphs that are not valid, and those that are just within the limits.
func TestNewErrors(t *testing.T) {
	cases := []struct {
		name string
		g    api.Graph
		want api.Errno
	}{
		{"the zero graph", api.Graph{}, 4},
		{"no node", graphOf(0, edge(0, 0, 0, 1)), 4},
		{"-1 nodes", graphOf(-1), 4},
		{"1 node", graphOf(1), 0},
		{"8 nodes", graphOf(8), 0},
		{"9 nodes", graphOf(9), 4},
		{"the least number of nodes", graphOf(math.MinInt), 4},
		{"the greatest number of nodes", graphOf(math.MaxInt), 4},
		{"16 edges", graphOf(2, slices.Repeat([]api.Edge{edge(0, 1, 0, 0)}, 16)...), 0},
		{"17 edges", graphOf(2, slices.Repeat([]api.Edge{edge(0, 1, 0, 0)}, 17)...), 4},
		{"from -1", graphOf(2, edge(-1, 0, 0, 1)), 4},
		{"to -1", graphOf(2, edge(0, -1, 0, 1)), 4},
		{"from a node too great", graphOf(2, edge(2, 0, 0, 1)), 4},
		{"to a node too great", graphOf(2, edge(0, 1, 0, 0), edge(0, 2, 0, 1)), 4},
		{"a path of epoch -1", graphOf(2, edge(0, 1, -1, 0)), 4},
		{"a path of round -1", graphOf(2, edge(0, 1, 0, -1)), 4},
		{"the greatest path", graphOf(2, edge(0, 1, mostPart, mostPart)), 0},
		{"a path of an epoch too great", graphOf(2, edge(0, 1, mostPart+1, 0)), 4},
		{"a path of a round too great", graphOf(2, edge(0, 1, 0, mostPart+1)), 4},
		{"a zero loop at one node", graphOf(1, edge(0, 0, 0, 0)), 5},
		{"a zero loop", graphOf(2, edge(0, 1, 0, 0), edge(1, 0, 0, 0)), 5},
		{"a zero loop beside others", graphOf(3, edge(0, 1, 0, 1), edge(1, 2, 0, 0), edge(2, 1, 0, 0)), 5},
		{"a loop that is not zero", graphOf(2, edge(0, 1, 0, 0), edge(1, 0, 0, 1)), 0},
		{"an edge that is not valid, and a zero loop", graphOf(1, edge(0, 0, 0, 0), edge(0, 1, 0, 0)), 4},
		{"too many edges, and a zero loop", graphOf(1, slices.Repeat([]api.Edge{edge(0, 0, 0, 0)}, 17)...), 4},
		{"64 paths to a node", doubled(7, 6), 0},
		{"128 paths to a node: too many for a closure alone", doubled(8, 7), 0},
	}
	for _, c := range cases {
		b, err := New(c.g)
		if err != c.want || (b == nil) != (c.want != 0) {
			t.Errorf("%s: got %v %d, want %d", c.name, b, err, c.want)
		}
		if c.want == 0 {
			checkAll(t, c.name, b, plain{c.g, nil}, pool(c.g, []int{0, 1, mostPart}))
		}
	}
}

// P11.1: of any graph the error is that of graph.Check.
func TestNewHasTheErrorOfTheCheck(t *testing.T) {
	r := rand.New(rand.NewSource(111))
	seen := map[api.Errno]int{}
	for range 3000 {
		g := someGraph(r)
		switch r.Intn(6) {
		case 0:
			g.Nodes = r.Intn(40) - 20
		case 1:
			g.Edges = append(g.Edges, edge(r.Intn(10)-1, r.Intn(10)-1, r.Intn(10)-1, r.Intn(10)-1))
		case 2:
			g.Edges = append(g.Edges, slices.Repeat([]api.Edge{edge(0, 0, 1, 1)}, r.Intn(17))...)
		}
		want, _ := graph.Check(g)
		b, err := New(g)
		if err != want || (b == nil) != (want != 0) {
			t.Errorf("New(%v): got %v %d, want %d", g, b, err, want)
		}
		seen[err]++
	}
	if seen[0] < 100 || seen[4] < 100 || seen[5] < 100 || len(seen) != 3 {
		t.Errorf("only these results: %v", seen)
	}
}

// someGraph is one of any size, which may have a zero loop.
func someGraph(r *rand.Rand) api.Graph {
	g := graphOf(1 + r.Intn(mostNodes))
	for range r.Intn(mostEdges + 1) {
		part := []int{0, 0, 0, 1, 1, 2, mostPart}
		g.Edges = append(g.Edges, edge(r.Intn(g.Nodes), r.Intn(g.Nodes), part[r.Intn(len(part))], part[r.Intn(len(part))]))
	}
	return g
}

// pool are entries of all kinds at all nodes and some beyond, along all edges and some beyond.
func pool(g api.Graph, parts []int) []api.Entry {
	var all []api.Entry
	for _, kind := range kinds {
		for node := range min(g.Nodes+1, mostNodes) {
			for _, epoch := range parts {
				for _, round := range parts {
					for along := range min(len(g.Edges)+1, mostEdges) {
						all = append(all, some(kind, at(node, epoch, round), along, 1+along%3))
					}
				}
			}
		}
	}
	return all
}

// graphs are valid ones: with loops, without, with several edges between two nodes.
func graphs() []api.Graph {
	return []api.Graph{
		graphOf(1),
		graphOf(2, edge(0, 1, 0, 1)),
		graphOf(2, edge(0, 1, 0, 0), edge(1, 0, 0, 1)),
		graphOf(1, edge(0, 0, 1, 0), edge(0, 0, 0, 2)),
		graphOf(3, edge(0, 1, 0, 2), edge(0, 1, 1, 0), edge(1, 2, 0, 0), edge(2, 0, 1, 1)),
		graphOf(3, edge(2, 1, 0, 0), edge(1, 0, 0, 0), edge(0, 2, 2, 0), edge(1, 1, 0, 1)),
		graphOf(2, edge(0, 1, mostPart, 0), edge(1, 0, 0, mostPart), edge(0, 1, mostPart-1, 1)),
	}
}

// P11.1, R2, R3: the graph that was handed in is not changed, nor kept: it may be changed after the call. No edges may be nil or empty.
func TestGraphStaysAsItIs(t *testing.T) {
	refused := []api.Graph{graphOf(9, edge(0, 1, 0, 0)), graphOf(1, edge(0, 0, 0, 0)), graphOf(2, edge(0, 1, 0, 0), edge(0, 2, 0, 0))}
	for _, before := range append(graphs(), refused...) {
		edges := append(slices.Clone(before.Edges), edge(-7, 77, 7, 7))
		g := api.Graph{Nodes: before.Nodes, Edges: edges[:len(before.Edges)]}
		b, err := New(g)
		if !slices.Equal(g.Edges, before.Edges) || edges[len(edges)-1] != edge(-7, 77, 7, 7) {
			t.Errorf("%v was changed to %v", before, edges)
		}
		if err != 0 {
			continue
		}
		m := plain{before, map[api.Point]int{}}
		enter(t, "the feed", b, m, feed(at(0, 1, 1), 1), 0)
		for _, other := range []api.Edge{edge(0, 0, 0, 0), edge(-9, 99, -9, 99), edge(1, 1, 0, 0)} {
			for i := range edges {
				edges[i] = other
			}
			checkAll(t, "the graph is another one", b, m, pool(before, []int{0, 1, 2, 3, mostPart}))
		}
		for i, e := range before.Edges {
			enter(t, "the graph is another one", b, m, take(at(e.To, 0, 2), i, 1), 0)
		}
		checkAll(t, "the graph is another one", b, m, pool(before, []int{0, 1, 2, 3, mostPart}))
	}
	for _, edges := range [][]api.Edge{nil, {}} {
		b, m := bookOf(t, api.Graph{Nodes: 2, Edges: edges}, feed(at(0, 1, 0), 2))
		checkAll(t, "no edges", b, m, pool(m.g, []int{0, 1, 2}))
	}
}

// field is a number of an entry, and the range of what is valid.
type field struct {
	name            string
	of              func(e *api.Entry) *int
	least, greatest int
}

// fields are all of an entry but Prev.
func fields() []field {
	return []field{
		{"Kind", func(e *api.Entry) *int { return &e.Kind }, 1, 5},
		{"Seq", func(e *api.Entry) *int { return &e.Seq }, 0, 1000000},
		{"Node", func(e *api.Entry) *int { return &e.Point.Node }, 0, 7},
		{"Epoch", func(e *api.Entry) *int { return &e.Point.T.Epoch }, 0, mostPart},
		{"Round", func(e *api.Entry) *int { return &e.Point.T.Round }, 0, mostPart},
		{"Edge", func(e *api.Entry) *int { return &e.Edge }, 0, 15},
		{"Peer", func(e *api.Entry) *int { return &e.Peer }, 0, 6},
		{"N", func(e *api.Entry) *int { return &e.N }, 1, mostN},
	}
}

// full is a book of 8 nodes and 16 edges that permits an entry of each kind, even one of a greater N.
func full(t *testing.T) (*Book, plain, []api.Entry) {
	t.Helper()
	g := looped(mostNodes)
	g.Edges = append(g.Edges, g.Edges...)
	b, m := bookOf(t, g, feed(at(0, 3, 3), mostN), take(at(7, 3, 3), 7, mostN))
	return b, m, []api.Entry{
		feed(at(0, 3, 3), 1), holds(at(0, 3, 3), 1), drop(at(0, 3, 3), 1), send(at(0, 3, 4), 0, 1), take(at(0, 3, 3), 0, 1),
		holds(at(7, 4, 3), 2), drop(at(7, 3, 3), mostN), send(at(7, 9, 9), 15, mostN), take(at(7, 0, 0), 7, mostN),
	}
}

// P11.2: one field alone that is valid, that just isn't, or is far from it.
func TestFormOfEachField(t *testing.T) {
	b, m, permitted := full(t)
	for _, e := range permitted {
		mayBe(t, "as it is", b, m, e, 0)
		for _, f := range fields() {
			for _, n := range append([]int{f.least - 1, f.least, f.greatest, f.greatest + 1}, ends...) {
				other := e
				*f.of(&other) = n
				got, want := b.May(other), m.wantMay(other)
				if got != want || !within(n, f.least, f.greatest) && got != form {
					t.Errorf("%s %d: May(%v): got %d, want %d", f.name, n, other, got, want)
				}
				if want != form {
					continue
				}
				if got := b.Enter(other); got != form {
					t.Errorf("%s %d: Enter(%v): got %d", f.name, n, other, got)
				}
				check(t, f.name, b, m)
			}
		}
		for i := range e.Prev {
			other := e
			other.Prev[i] = byte(255 - i)
			mayBe(t, "another Prev", b, m, other, 0)
		}
	}
}

// P11.2: an entry's Node is one of the graph's, or just not; so of each kind, even if the edge leads there.
func TestNodes(t *testing.T) {
	for n := 1; n <= mostNodes; n++ {
		b, m := newBook(t, looped(n))
		for node := range n {
			fill(t, b, m, at(node, 2, 2), node, 3)
		}
		for node := -1; node <= mostNodes; node++ {
			for _, kind := range kinds {
				for _, along := range []int{0, max(node, 0), n - 1} {
					e := some(kind, at(node, 2, 3), along, 1)
					if kind == kDrop {
						e.Point.T.Round = 2
					}
					var want api.Errno
					switch {
					case node < 0 || node >= n || (kind == kSend || kind == kTake) && along != node:
						want = form
					case kind == kFeed && node != 0:
						want = hold
					}
					mayBe(t, "a node", b, m, e, want)
				}
			}
		}
	}
}

// P11.2: an entry's Edge is one of the graph's that leads to its Node, or just not; of other kinds than KSend and KTake it does not matter.
func TestEdges(t *testing.T) {
	for n := range mostEdges + 1 {
		g := graphOf(3)
		for i := range n {
			g.Edges = append(g.Edges, edge(i%3, (i+1)%3, 0, 1))
		}
		b, m := bookOf(t, g, feed(at(0, 1, 1), 5))
		for i := range min(n, 3) {
			fill(t, b, m, at((i+1)%3, 1, 1), i, 5)
		}
		for along := -1; along <= mostEdges+1; along++ {
			for node := range 3 {
				isEdge := 0 <= along && along < n
				leads := isEdge && (along+1)%3 == node
				for _, e := range []api.Entry{send(at(node, 1, 2), along, 1), take(at(node, 1, 2), along, 1)} {
					want := form
					if leads {
						want = 0
					}
					mayBe(t, "along an edge", b, m, e, want)
				}
				for _, e := range []api.Entry{holds(at(node, 1, 2), 1), drop(at(node, 1, 1), 1)} {
					e.Edge = along
					want := api.Errno(0)
					if !within(along, 0, mostEdges-1) {
						want = form
					} else if len(b.Holds(node)) == 0 {
						want = m.wantMay(e)
					}
					mayBe(t, "its edge does not matter", b, m, e, want)
				}
			}
			e := some(kFeed, at(0, 7, 7), along, 1)
			if within(along, 0, mostEdges-1) {
				mayBe(t, "its edge does not matter", b, m, e, 0)
			} else {
				mayBe(t, "its edge is none", b, m, e, form)
			}
		}
	}
}

// P11.2: a KFeed has the Seq 0, and is at node 0; nothing need be held.
func TestFeed(t *testing.T) {
	for _, held := range [][]api.Entry{nil, {take(at(1, 0, 0), 1, 1)}, {feed(at(0, 0, 0), 1), take(at(1, 0, 0), 1, 3)}} {
		for _, seq := range []int{0, 1, 2, 999999, 1000000} {
			for node := range 3 {
				for _, p := range []api.Point{at(node, 0, 0), at(node, 5, 7), at(node, mostPart, mostPart)} {
					for _, n := range []int{1, 2, mostN} {
						b, m := bookOf(t, looped(3), held...)
						want := hold
						if seq == 0 && node == 0 {
							want = 0
						}
						e := feed(p, n)
						e.Seq = seq
						enter(t, "a feed", b, m, e, want)
						check(t, "a feed", b, m)
					}
				}
			}
		}
	}
}

// P11.2: the Seq of other kinds does not matter, nor does the Peer of any, nor does N of a KSend.
func TestSeqAndPeer(t *testing.T) {
	b, m, permitted := full(t)
	for _, e := range permitted {
		for _, peer := range []int{0, 1, 6} {
			for _, seq := range []int{0, 1, 1000000} {
				e.Peer, e.Seq = peer, seq
				want := api.Errno(0)
				if e.Kind == kFeed && seq != 0 {
					want = hold
				}
				mayBe(t, "another Seq and Peer", b, m, e, want)
			}
		}
	}
	for _, n := range []int{1, 2, 3, 1000, mostN} {
		mayBe(t, "more than is held", b, m, send(at(0, 3, 4), 0, n), 0)
	}
}

// answers are timestamps, and whether they are permitted.
type answers map[api.Stamp]bool

// holdCases are sets of timestamps that are held at one node, and which may be held in addition there.
func holdCases() []struct {
	name string
	held []api.Stamp
	may  answers
} {
	return []struct {
		name string
		held []api.Stamp
		may  answers
	}{
		{"nothing", nil, answers{st(0, 0): false, st(mostPart, mostPart): false}},
		{"one", []api.Stamp{st(4, 6)}, answers{
			st(4, 6): true, st(5, 6): true, st(4, 7): true, st(5, 7): true, st(mostPart, 6): true, st(4, mostPart): true,
			st(3, 6): false, st(4, 5): false, st(3, 5): false, st(0, 0): false, st(5, 5): false, st(3, 7): false,
			st(mostPart, 5): false, st(3, mostPart): false, st(mostPart, mostPart): true,
		}},
		{"the least", []api.Stamp{st(0, 0)}, answers{
			st(0, 0): true, st(0, 1): true, st(1, 0): true, st(mostPart, 0): true, st(mostPart, mostPart): true,
		}},
		{"the greatest", []api.Stamp{st(mostPart, mostPart)}, answers{
			st(mostPart, mostPart): true, st(mostPart, mostPart-1): false, st(mostPart-1, mostPart): false, st(0, 0): false,
		}},
		{"incomparable ones", []api.Stamp{st(2, 9), st(5, 4), st(8, 1)}, answers{
			st(2, 9): true, st(5, 4): true, st(8, 1): true, st(3, 9): true, st(5, 8): true, st(6, 4): true, st(9, 1): true, st(8, 3): true,
			st(2, 8): false, st(1, 9): false, st(4, 8): false, st(5, 3): false, st(7, 3): false, st(8, 0): false, st(mostPart, 0): false, st(1, mostPart): false,
		}},
		{"comparable ones", []api.Stamp{st(6, 6), st(4, 5), st(9, 9), st(4, 6)}, answers{
			st(4, 5): true, st(4, 6): true, st(5, 5): true, st(6, 5): true, st(3, 9): false, st(9, 4): false, st(4, 4): false,
		}},
	}
}

// P11.2: a KHold needs something at its node that is LessEq to its T; what is at another node is of no use.
func TestHold(t *testing.T) {
	for _, c := range holdCases() {
		for node := range 3 {
			b, m := newBook(t, looped(3))
			for _, s := range c.held {
				enter(t, "to begin with", b, m, take(api.Point{Node: node, T: s}, node, 2), 0)
			}
			for s, may := range c.may {
				for there := range 3 {
					want := hold
					if may && there == node {
						want = 0
					}
					for _, n := range []int{1, 3, mostN} {
						mayBe(t, c.name, b, m, holds(api.Point{Node: there, T: s}, n), want)
					}
				}
			}
		}
	}
}

// P11.2: what was dropped is of no use to a KHold or a KSend, until it is held again.
func TestWhatIsDroppedIsOfNoUse(t *testing.T) {
	g := graphOf(2, edge(0, 1, 0, 1))
	p, later, beyond := at(0, 2, 2), at(0, 3, 2), at(1, 3, 3)
	b, m := bookOf(t, g, feed(p, 2), feed(at(0, 9, 0), 1))
	for _, e := range []api.Entry{holds(later, 1), send(beyond, 0, 1)} {
		mayBe(t, "held twice", b, m, e, 0)
	}
	enter(t, "once", b, m, drop(p, 1), 0)
	for _, e := range []api.Entry{holds(later, 1), send(beyond, 0, 1)} {
		mayBe(t, "held once", b, m, e, 0)
	}
	enter(t, "twice", b, m, drop(p, 1), 0)
	for _, e := range []api.Entry{holds(later, 1), holds(p, 1), send(beyond, 0, 1)} {
		enter(t, "not held", b, m, e, hold)
	}
	check(t, "not held", b, m)
	enter(t, "again", b, m, feed(p, 1), 0)
	enter(t, "held again", b, m, send(beyond, 0, 1), 0)
	enter(t, "held again", b, m, holds(later, 1), 0)
	enter(t, "the later one remains", b, m, drop(p, 1), 0)
	enter(t, "the later one remains", b, m, send(beyond, 0, 1), 0)
	enter(t, "the later one remains", b, m, holds(p, 1), hold)
	check(t, "the later one remains", b, m)
}

// P11.2: a KSend needs something at the edge's From that is, behind the edge's Path, LessEq to its T.
func TestSend(t *testing.T) {
	g := graphOf(3, edge(0, 1, 2, 3), edge(0, 1, 0, 1), edge(1, 2, 0, 0), edge(1, 1, 0, 5), edge(2, 0, 1, 0))
	cases := []struct {
		name  string
		held  api.Point
		along int
		p     api.Point
		want  api.Errno
	}{
		{"equal", at(0, 4, 6), 0, at(1, 6, 9), 0},
		{"an epoch later", at(0, 4, 6), 0, at(1, 7, 9), 0},
		{"a round later", at(0, 4, 6), 0, at(1, 6, 10), 0},
		{"the greatest", at(0, 4, 6), 0, at(1, mostPart, mostPart), 0},
		{"an epoch earlier", at(0, 4, 6), 0, at(1, 5, 9), hold},
		{"a round earlier", at(0, 4, 6), 0, at(1, 6, 8), hold},
		{"earlier in both", at(0, 4, 6), 0, at(1, 5, 8), hold},
		{"without the path", at(0, 4, 6), 0, at(1, 4, 6), hold},
		{"with the path's round alone", at(0, 4, 6), 0, at(1, 4, 9), hold},
		{"with the path's epoch alone", at(0, 4, 6), 0, at(1, 6, 6), hold},
		{"incomparable, of a later epoch", at(0, 4, 6), 0, at(1, mostPart, 8), hold},
		{"incomparable, of a later round", at(0, 4, 6), 0, at(1, 5, mostPart), hold},
		{"along another edge to the same node", at(0, 4, 6), 1, at(1, 4, 7), 0},
		{"along another edge, too early", at(0, 4, 6), 1, at(1, 4, 6), hold},
		{"along another edge, incomparable", at(0, 4, 6), 1, at(1, 3, 8), hold},
		{"along an edge of a zero path", at(1, 4, 6), 2, at(2, 4, 6), 0},
		{"along an edge of a zero path, too early", at(1, 4, 6), 2, at(2, 4, 5), hold},
		{"to the node itself", at(1, 4, 6), 3, at(1, 4, 11), 0},
		{"to the node itself, too early", at(1, 4, 6), 3, at(1, 4, 10), hold},
		{"to the node itself, what it holds", at(1, 4, 6), 3, at(1, 4, 6), hold},
		{"held at To", at(1, 0, 0), 0, at(1, 6, 9), hold},
		{"held at To, the greatest", at(1, 0, 0), 1, at(1, mostPart, mostPart), hold},
		{"held at a node that is none of both", at(2, 0, 0), 0, at(1, 6, 9), hold},
		{"held ahead of From", at(0, 0, 0), 2, at(2, 9, 9), hold},
		{"held at To of an edge of a zero path", at(2, 0, 0), 2, at(2, 9, 9), hold},
		{"back", at(2, 4, 6), 4, at(0, 5, 6), 0},
		{"back, too early", at(2, 4, 6), 4, at(0, 4, 6), hold},
		{"the greatest sum", at(0, mostPart-2, mostPart-3), 0, at(1, mostPart, mostPart), 0},
		{"an epoch beyond it", at(0, mostPart-1, 0), 0, at(1, mostPart, mostPart), hold},
		{"a round beyond it", at(0, 0, mostPart-2), 0, at(1, mostPart, mostPart), hold},
		{"both beyond it", at(0, mostPart, mostPart), 0, at(1, mostPart, mostPart), hold},
		{"the greatest by a zero path", at(1, mostPart, mostPart), 2, at(2, mostPart, mostPart), 0},
	}
	for _, c := range cases {
		// Whatever is held, an edge leads to each node: 4 to 0, 0 to 1, 2 to 2.
		for _, n := range []int{1, 2, mostN} {
			b, m := bookOf(t, g, take(c.held, []int{4, 0, 2}[c.held.Node], n))
			mayBe(t, c.name, b, m, send(c.p, c.along, 1), c.want)
			enter(t, c.name, b, m, send(c.p, c.along, mostN), c.want)
			check(t, c.name, b, m)
		}
		b, m := newBook(t, g)
		mayBe(t, c.name+", but nothing is held", b, m, send(c.p, c.along, 1), hold)
	}
}

// P11.2: of several that are held, one is enough: the others may be later, incomparable, or lead beyond the greatest timestamp.
func TestSendOfSeveral(t *testing.T) {
	g := graphOf(2, edge(0, 1, 2, 3))
	cases := []struct {
		name string
		held []api.Stamp
		may  answers
	}{
		{"incomparable ones", []api.Stamp{st(2, 9), st(5, 4), st(8, 1)}, answers{
			st(4, 12): true, st(7, 7): true, st(10, 4): true, st(9, 7): true, st(7, 11): true,
			st(4, 11): false, st(6, 7): false, st(7, 6): false, st(9, 6): false, st(10, 3): false, st(2, 9): false, st(9, 5): false,
		}},
		{"comparable ones", []api.Stamp{st(6, 6), st(4, 5), st(9, 9)}, answers{
			st(6, 8): true, st(8, 9): true, st(7, 8): true, st(5, 8): false, st(6, 7): false,
		}},
		{"the first one leads beyond", []api.Stamp{st(0, mostPart-2), st(5, 5)}, answers{
			st(7, 8): true, st(mostPart, mostPart): true, st(6, mostPart): false, st(2, mostPart): false, st(7, 7): false,
		}},
		{"the last one leads beyond", []api.Stamp{st(5, 5), st(mostPart-1, 0)}, answers{
			st(7, 8): true, st(mostPart, mostPart): true, st(mostPart, 7): false, st(mostPart, 3): false,
		}},
		{"all lead beyond", []api.Stamp{st(0, mostPart), st(mostPart-1, 5), st(mostPart, 0)}, answers{
			st(mostPart, mostPart): false, st(2, mostPart): false, st(mostPart, 8): false,
		}},
		{"those in the middle do not lead beyond", []api.Stamp{st(0, mostPart), st(1, mostPart-3), st(mostPart-2, 1), st(mostPart, 0)}, answers{
			st(3, mostPart): true, st(mostPart, 4): true, st(mostPart, 3): false, st(2, mostPart): false, st(3, mostPart-1): false,
		}},
	}
	for _, c := range cases {
		for range 2 {
			b, m := newBook(t, g)
			for _, s := range c.held {
				enter(t, c.name, b, m, feed(api.Point{T: s}, 1), 0)
			}
			for s, may := range c.may {
				want := hold
				if may {
					want = 0
				}
				mayBe(t, c.name, b, m, send(api.Point{Node: 1, T: s}, 0, 4), want)
			}
			slices.Reverse(c.held)
		}
	}
}

// P11.2: a KTake needs nothing that is held, at any timestamp.
func TestTake(t *testing.T) {
	g := graphOf(2, edge(0, 1, 2, 3), edge(1, 0, 0, 1))
	for _, held := range [][]api.Entry{nil, {feed(at(0, 5, 5), 1)}, {take(at(1, 5, 5), 0, 1)}} {
		for _, s := range []api.Stamp{st(0, 0), st(5, 5), st(4, 9), st(mostPart, mostPart)} {
			for node, along := range []int{1, 0} {
				for _, n := range []int{1, 2, mostN} {
					b, m := bookOf(t, g, held...)
					enter(t, "taken", b, m, take(api.Point{Node: node, T: s}, along, n), 0)
					check(t, "taken", b, m)
				}
			}
		}
	}
}

// P11.2: a KDrop of one less than is held, of as many, and of one more; what is held at other points is of no use.
func TestDrop(t *testing.T) {
	for node := range 3 {
		p, next := at(node, 4, 6), (node+1)%3
		for _, held := range []int{1, 2, 3, 999, mostN - 1, mostN, mostN + 1, 2 * mostN} {
			for _, n := range []int{1, held - 1, held, held + 1, mostN} {
				if n < 1 || n > mostN {
					continue
				}
				b, m := newBook(t, looped(3))
				fill(t, b, m, at(next, 4, 6), next, 2*mostN)
				fill(t, b, m, at(node, 6, 4), node, 2*mostN)
				fill(t, b, m, p, node, held)
				for _, q := range []api.Point{at(node, 4, 5), at(node, 3, 6), at(node, 5, 6), at(node, 4, 7), at((node+2)%3, 4, 6), at(node, 0, 0)} {
					enter(t, "held at other points", b, m, drop(q, 1), over)
				}
				want := api.Errno(0)
				if n > held {
					want = over
				}
				enter(t, "drop", b, m, drop(p, n), want)
				check(t, "drop", b, m)
			}
		}
	}
}

// P11.2, P11.3: a point is held up to 1000000000 times, of each kind; then there is room again.
func TestLimits(t *testing.T) {
	for _, p := range []api.Point{at(0, 0, 0), at(0, mostPart, 7)} {
		b, m := newBook(t, looped(2))
		kindsOf := func(n int) []api.Entry { return []api.Entry{feed(p, n), holds(p, n), take(p, 0, n)} }
		fill(t, b, m, p, 0, most-mostN-1)
		for _, e := range kindsOf(mostN) {
			mayBe(t, "one less", b, m, e, 0)
		}
		enter(t, "one more", b, m, holds(p, 1), 0)
		for i, e := range kindsOf(mostN) {
			mayBe(t, "just full", b, m, e, 0)
			enter(t, "full", b, m, e, 0)
			if got := b.Holds(0); !slices.Equal(got, []api.Count{{T: p.T, N: most}}) {
				t.Errorf("full: got %v", got)
			}
			for _, n := range []int{1, 2, mostN} {
				enter(t, "beyond it", b, m, kindsOf(n)[(i+n)%3], over)
			}
			for _, other := range kindsOf(1) {
				enter(t, "beyond it", b, m, other, over)
			}
			check(t, "beyond it", b, m)
			enter(t, "another timestamp", b, m, holds(api.Point{T: st(mostPart, 8)}, 1), 0)
			enter(t, "it may be sent", b, m, send(at(0, mostPart, 8), 0, mostN), 0)
			enter(t, "another node", b, m, take(api.Point{Node: 1, T: p.T}, 1, mostN), 0)
			check(t, "others", b, m)
			enter(t, "and gone", b, m, drop(at(0, mostPart, 8), 1), 0)
			enter(t, "room again", b, m, drop(p, mostN), 0)
		}
		for _, n := range []int{1, mostN - 1} {
			for _, e := range kindsOf(n) {
				enter(t, "room again", b, m, e, 0)
				enter(t, "room again", b, m, drop(p, n), 0)
			}
		}
		enter(t, "all but one", b, m, take(p, 0, mostN-1), 0)
		for _, e := range kindsOf(2) {
			enter(t, "one too many", b, m, e, over)
		}
		check(t, "all but one", b, m)
		enter(t, "the last one", b, m, feed(p, 1), 0)
		check(t, "the last one", b, m)
		for range 1000 {
			enter(t, "down again", b, m, drop(p, mostN), 0)
		}
		if got := b.Holds(0); len(got) != 0 {
			t.Errorf("down again: got %v", got)
		}
	}
}

// P11.2: what is sent is not held by the sender: a KSend of a point that it holds as often as it may is permitted.
func TestSendOfAFullPoint(t *testing.T) {
	b, m := bookOf(t, graphOf(2, edge(0, 1, 0, 1)), feed(at(0, 0, 0), 1))
	fill(t, b, m, at(1, 0, 1), 0, most)
	for _, n := range []int{1, mostN} {
		enter(t, "taken", b, m, take(at(1, 0, 1), 0, n), over)
		enter(t, "sent", b, m, send(at(1, 0, 1), 0, n), 0)
		check(t, "sent", b, m)
	}
}

// P11.2: a point's own count is limited, not that of its node nor that of all.
func TestLimitIsOfOnePoint(t *testing.T) {
	b, m := newBook(t, looped(2))
	for _, p := range []api.Point{at(0, 0, 0), at(0, 0, 1), at(1, 0, 0), at(1, 1, 0)} {
		fill(t, b, m, p, p.Node, most)
		check(t, "full", b, m)
		enter(t, "full", b, m, take(p, p.Node, 1), over)
	}
	enter(t, "another one", b, m, holds(at(0, 1, 1), mostN), 0)
	check(t, "another one", b, m)
}

// P0, P11.2: of several errors the first one of ErrForm, ErrHold, ErrOver.
func TestTheFirstErrorComesFirst(t *testing.T) {
	b, m := newBook(t, graphOf(2, edge(0, 1, 0, 1), edge(1, 0, 0, 1)))
	fill(t, b, m, at(0, 0, 0), 0, most)
	fill(t, b, m, at(1, 0, 0), 0, most)
	second := func(e api.Entry) api.Entry { e.Seq = 1; return e }
	cases := []struct {
		name string
		e    api.Entry
		want api.Errno
	}{
		{"a feed, over", feed(at(0, 0, 0), 1), over},
		{"a feed, hold by Seq and over", second(feed(at(0, 0, 0), 1)), hold},
		{"a feed, hold by Node and over", feed(at(1, 0, 0), 1), hold},
		{"a feed, hold by both and over", second(feed(at(1, 0, 0), 1)), hold},
		{"a feed, form by N, hold and over", second(feed(at(1, 0, 0), mostN+1)), form},
		{"a feed, form by Node and hold", second(feed(at(2, 0, 0), 1)), form},
		{"a feed, form by Edge, hold and over", second(some(kFeed, at(1, 0, 0), 16, 1)), form},
		{"a feed, form by Seq, and hold by it", api.Entry{Kind: kFeed, Seq: 1000001, N: 1}, form},
		{"a hold, over", holds(at(1, 0, 0), 1), over},
		{"a hold, form by N and over", holds(at(1, 0, 0), mostN+1), form},
		{"a hold, form by Round and hold", holds(at(1, 0, -1), 1), form},
		{"a hold, form by Node and hold", holds(at(2, 0, 0), 1), form},
		{"a send, hold", send(at(1, 0, 0), 0, 1), hold},
		{"a send, form by Edge and hold", send(at(1, 0, 0), 2, 1), form},
		{"a send, form by the edge's To and hold", send(at(1, 0, 0), 1, 1), form},
		{"a send, form by N and hold", send(at(1, 0, 0), 0, 0), form},
		{"a take, over", take(at(1, 0, 0), 0, 1), over},
		{"a take, form by Edge and over", take(at(1, 0, 0), 2, 1), form},
		{"a take, form by the edge's To and over", take(at(1, 0, 0), 1, 1), form},
		{"a drop, over", drop(at(0, 0, 1), 1), over},
		{"a drop, form by N and over", drop(at(0, 0, 1), mostN+1), form},
		{"a drop, form by Epoch and over", drop(at(0, -1, 0), 1), form},
		{"a drop, form by Node and over", drop(at(2, 0, 0), 1), form},
		{"no kind, and over", some(0, at(0, 0, 0), 0, 1), form},
		{"no kind, and over", some(6, at(0, 0, 0), 0, 1), form},
	}
	for _, c := range cases {
		enter(t, c.name, b, m, c.e, c.want)
		check(t, c.name, b, m)
	}
}

// stateOf are entries that lead to some state of a book of g.
func stateOf(g api.Graph) []api.Entry {
	l := []api.Entry{feed(at(0, 1, 1), 3), holds(at(0, 1, 2), 2), holds(at(0, 3, 1), 1), drop(at(0, 1, 1), 2)}
	for i, e := range g.Edges {
		l = append(l, take(at(e.To, 2, i%3), i, 1+i))
	}
	return l
}

// P11.2, P11.3, R1: May changes nothing, and an Enter that returns an error changes nothing, that any call could observe.
func TestNothingIsChanged(t *testing.T) {
	for _, g := range graphs() {
		b, m := bookOf(t, g, stateOf(g)...)
		entries := pool(g, []int{0, 1, 2, 3})
		refused := 0
		for i, e := range entries {
			want := m.wantMay(e)
			for range 2 {
				if got := b.May(e); got != want {
					t.Errorf("%v: May(%v): got %d, want %d", g, e, got, want)
				}
			}
			check(t, "asked", b, m)
			if want == 0 {
				continue
			}
			refused++
			if got := b.Enter(e); got != want {
				t.Errorf("%v: Enter(%v): got %d, want %d", g, e, got, want)
			}
			check(t, "refused", b, m)
			if i%20 == 0 {
				checkAll(t, "refused", b, m, entries)
			}
		}
		checkAll(t, "all of them", b, m, entries)
		if refused < 20 || refused == len(entries) {
			t.Errorf("%v: %d of %d were refused", g, refused, len(entries))
		}
	}
}

// P11.3: what an entry of each kind changes, written out.
func TestEnter(t *testing.T) {
	b, _ := newBook(t, graphOf(2, edge(0, 1, 0, 1), edge(1, 0, 1, 0)))
	steps := []struct {
		e         api.Entry
		err       api.Errno
		zero, one []api.Count
	}{
		{feed(at(0, 0, 0), 2), 0, []api.Count{count(0, 0, 2)}, nil},
		{feed(at(0, 0, 0), 3), 0, []api.Count{count(0, 0, 5)}, nil},
		{holds(at(0, 2, 0), 4), 0, []api.Count{count(0, 0, 5), count(2, 0, 4)}, nil},
		{holds(at(0, 0, 0), 1), 0, []api.Count{count(0, 0, 6), count(2, 0, 4)}, nil},
		{send(at(1, 0, 1), 0, 5), 0, []api.Count{count(0, 0, 6), count(2, 0, 4)}, nil},
		{send(at(1, 0, 0), 0, 5), hold, []api.Count{count(0, 0, 6), count(2, 0, 4)}, nil},
		{take(at(1, 0, 1), 0, 7), 0, []api.Count{count(0, 0, 6), count(2, 0, 4)}, []api.Count{count(0, 1, 7)}},
		{take(at(1, 0, 1), 0, 1), 0, []api.Count{count(0, 0, 6), count(2, 0, 4)}, []api.Count{count(0, 1, 8)}},
		{drop(at(0, 0, 0), 5), 0, []api.Count{count(0, 0, 1), count(2, 0, 4)}, []api.Count{count(0, 1, 8)}},
		{drop(at(0, 0, 0), 2), over, []api.Count{count(0, 0, 1), count(2, 0, 4)}, []api.Count{count(0, 1, 8)}},
		{drop(at(0, 0, 0), 1), 0, []api.Count{count(2, 0, 4)}, []api.Count{count(0, 1, 8)}},
		{holds(at(0, 1, 0), 1), hold, []api.Count{count(2, 0, 4)}, []api.Count{count(0, 1, 8)}},
		{take(at(0, 1, 1), 1, 9), 0, []api.Count{count(1, 1, 9), count(2, 0, 4)}, []api.Count{count(0, 1, 8)}},
		{send(at(0, 1, 1), 1, mostN), 0, []api.Count{count(1, 1, 9), count(2, 0, 4)}, []api.Count{count(0, 1, 8)}},
		{drop(at(1, 0, 1), 8), 0, []api.Count{count(1, 1, 9), count(2, 0, 4)}, nil},
		{send(at(0, 1, 1), 1, 1), hold, []api.Count{count(1, 1, 9), count(2, 0, 4)}, nil},
		{drop(at(0, 2, 0), 4), 0, []api.Count{count(1, 1, 9)}, nil},
		{drop(at(0, 1, 1), 9), 0, nil, nil},
	}
	for i, s := range steps {
		if got := b.Enter(s.e); got != s.err {
			t.Errorf("%d: Enter(%v): got %d, want %d", i, s.e, got, s.err)
		}
		if got := b.Holds(0); !slices.Equal(got, s.zero) {
			t.Errorf("%d: Holds(0): got %v, want %v", i, got, s.zero)
		}
		if got := b.Holds(1); !slices.Equal(got, s.one) {
			t.Errorf("%d: Holds(1): got %v, want %v", i, got, s.one)
		}
	}
}

// P11.3: Holds of each node, in increasing order, and of numbers that are no node.
func TestHolds(t *testing.T) {
	stamps := []api.Stamp{st(2, 0), st(0, 2), st(1, 1), st(1, 0), st(0, mostPart), st(mostPart, 0), st(0, 0), st(1, 2)}
	want := []api.Stamp{st(0, 0), st(0, 2), st(0, mostPart), st(1, 0), st(1, 1), st(1, 2), st(2, 0), st(mostPart, 0)}
	for n := 1; n <= mostNodes; n++ {
		b, m := newBook(t, looped(n))
		check(t, "new", b, m)
		for node := range n {
			for i, s := range stamps {
				enter(t, "taken", b, m, take(api.Point{Node: node, T: s}, node, 1+i+node), 0)
			}
			// The one in the middle goes again, as does the node behind the next one.
			enter(t, "dropped", b, m, drop(at(node, 1, 0), 4+node), 0)
			check(t, "dropped", b, m)
			var got []api.Stamp
			for _, c := range b.Holds(node) {
				got = append(got, c.T)
			}
			if !slices.Equal(got, slices.Concat(want[:3], want[4:])) {
				t.Errorf("%d nodes: Holds(%d): got %v", n, node, got)
			}
		}
		for _, node := range []int{math.MinInt, -8, -1, n, n + 1, mostNodes, mostNodes + 1, 16, math.MaxInt} {
			if got := b.Holds(node); (node < 0 || node >= n) && len(got) != 0 {
				t.Errorf("%d nodes: Holds(%d): got %v", n, node, got)
			}
		}
	}
	b, m := bookOf(t, looped(3), take(at(1, 4, 4), 1, 2))
	for _, node := range []int{0, 2} {
		if got := b.Holds(node); len(got) != 0 {
			t.Errorf("Holds(%d): got %v", node, got)
		}
	}
	check(t, "at one node alone", b, m)
}

// spoil overwrites a list, up to the end of its memory.
func spoil(l []api.Count) {
	l = l[:cap(l)]
	for i := range l {
		l[i] = count(-77, -77, -77)
	}
}

// R3: what a caller writes into a result of Holds, or behind its end, reaches neither the book nor another result; and a result stays as it was.
func TestResultsAreTheCallersOwn(t *testing.T) {
	for _, g := range graphs() {
		b, m := bookOf(t, g, stateOf(g)...)
		entries := pool(g, []int{0, 1, 2, 3})
		for node := range g.Nodes {
			want := m.wantHolds(node)
			again := b.Holds(node)
			spoil(b.Holds(node))
			if !slices.Equal(again, want) {
				t.Errorf("%v: another result became %v", g, again)
			}
			checkAll(t, "spoilt", b, m, entries)
			for _, c := range want {
				enter(t, "gone", b, m, drop(api.Point{Node: node, T: c.T}, c.N), 0)
			}
			enter(t, "fed", b, m, feed(at(0, 0, 0), 1), 0)
			if !slices.Equal(again, want) {
				t.Errorf("%v: a result became %v", g, again)
			}
			checkAll(t, "others", b, m, entries)
		}
	}
}

// P11.4: Moves of each kind, and of those that are none, of entries that are valid and of others.
func TestMoves(t *testing.T) {
	signs := map[int]int{kHold: 1, kDrop: -1, kSend: 1, kTake: 0, kFeed: 1}
	points := []api.Point{at(0, 0, 0), at(1, 2, 3), at(7, mostPart, mostPart), at(-1, 0, 0), at(8, 9, 9), at(math.MinInt, math.MaxInt, math.MinInt)}
	for _, kind := range append([]int{0, -1, 1, 2, 3, 4, 5, 6, 7, 255, 256, 257, 258, 259, 260, 261}, ends...) {
		for _, n := range append([]int{3, 4, mostN, mostN + 1}, ends...) {
			for _, p := range points {
				for _, other := range []api.Entry{{}, {Seq: 1, Edge: 5, Peer: 6}, {Seq: -1, Edge: 16, Peer: 7, Prev: [32]byte{1}}} {
					e := other
					e.Kind, e.Point, e.N = kind, p, n
					if got, change := Moves(e); got != p || change != signs[kind]*n {
						t.Errorf("Moves(%v): got %v %d", e, got, change)
					}
				}
			}
		}
	}
	for _, c := range []struct {
		e    api.Entry
		want int
	}{
		{holds(at(1, 2, 3), 4), 4}, {drop(at(1, 2, 3), 4), -4}, {send(at(1, 2, 3), 0, 4), 4}, {take(at(1, 2, 3), 0, 4), 0}, {feed(at(1, 2, 3), 4), 4},
		{some(0, at(1, 2, 3), 0, 4), 0}, {some(6, at(1, 2, 3), 0, 4), 0}, {drop(at(1, 2, 3), -4), 4}, {holds(at(1, 2, 3), -4), -4}, {feed(at(1, 2, 3), 0), 0},
	} {
		if p, n := Moves(c.e); p != at(1, 2, 3) || n != c.want {
			t.Errorf("Moves(%v): got %v %d, want %d", c.e, p, n, c.want)
		}
	}
}

// P11.3, P11.4: what is held and in transit changes by what Moves says: a KSend puts into transit, and a KTake takes from it.
func TestMovesIsWhatIsHeldOrInTransit(t *testing.T) {
	b, m, permitted := full(t)
	held := func(p api.Point) int {
		for _, c := range b.Holds(p.Node) {
			if c.T == p.T {
				return c.N
			}
		}
		return 0
	}
	transit := map[int]int{kSend: 1, kTake: -1}
	for range 3 {
		for _, e := range permitted {
			p, n := Moves(e)
			before := held(p)
			want := m.wantEnter(e)
			if got := b.Enter(e); got != want {
				t.Errorf("Enter(%v): got %d, want %d", e, got, want)
			}
			if got := held(p) - before + transit[e.Kind]*e.N; want == 0 && got != n {
				t.Errorf("%v: %d more, not %d", e, got, n)
			}
		}
	}
}

// R3: the entries that are handed in are not modified.
func TestEntriesStayAsTheyAre(t *testing.T) {
	b, m := bookOf(t, graphs()[4], stateOf(graphs()[4])...)
	entries := append(pool(m.g, []int{0, 2, mostPart}), stateOf(m.g)...)
	for i := range entries {
		entries[i].Prev[i%32], entries[i].Peer = byte(i), i%7
	}
	before := slices.Clone(entries)
	for i := range entries {
		b.May(entries[i])
		Moves(entries[i])
		b.Enter(entries[i])
	}
	if !slices.Equal(entries, before) {
		t.Error("entries were modified")
	}
}

// P11.2, P11.3 by their words: all sequences of a few entries.
func TestSmallLedgers(t *testing.T) {
	g := graphOf(2, edge(0, 1, 0, 1), edge(1, 0, 0, 0))
	entries := []api.Entry{
		feed(at(0, 0, 0), 1), feed(at(0, 0, 1), 2), holds(at(0, 0, 1), 1), holds(at(1, 0, 1), 1), drop(at(0, 0, 0), 1), drop(at(0, 0, 1), 2),
		drop(at(1, 0, 1), 1), send(at(1, 0, 1), 0, 1), send(at(1, 0, 2), 0, 1), send(at(0, 0, 1), 1, 1), take(at(1, 0, 1), 0, 2), take(at(0, 0, 1), 1, 1),
	}
	probes := pool(g, []int{0, 1, 2})
	var walk func(l []api.Entry, depth int)
	walk = func(l []api.Entry, depth int) {
		b, m := newBook(t, g)
		for _, e := range l {
			if got, want := b.Enter(e), m.wantEnter(e); got != want {
				t.Fatalf("%v: Enter(%v): got %d, want %d", l, e, got, want)
			}
		}
		check(t, "a small ledger", b, m)
		if depth < 3 {
			checkAll(t, "a small ledger", b, m, probes)
		}
		for _, e := range entries {
			if depth > 0 {
				walk(append(slices.Clone(l), e), depth-1)
			}
		}
	}
	walk(nil, 4)
}

// someEntry is one that has a good chance of being permitted.
func someEntry(r *rand.Rand, m plain) api.Entry {
	part := func() int { return []int{0, 0, 1, 1, 2, 3, 4, mostPart - 1, mostPart}[r.Intn(9)] }
	amount := []int{1, 1, 1, 2, 3, mostN - 1, mostN}[r.Intn(7)]
	e := api.Entry{Kind: 1 + r.Intn(5), Point: at(r.Intn(m.g.Nodes), part(), part()), Peer: r.Intn(7), N: amount}
	if len(m.g.Edges) > 0 && r.Intn(10) > 0 {
		e.Edge = r.Intn(len(m.g.Edges))
	}
	if e.Kind == kFeed && r.Intn(4) > 0 {
		e.Point.Node = 0
	}
	if (e.Kind == kSend || e.Kind == kTake) && r.Intn(8) > 0 && e.Edge < len(m.g.Edges) {
		e.Point.Node = m.g.Edges[e.Edge].To
	}
	if e.Kind == kDrop && r.Intn(4) > 0 {
		for _, c := range m.wantHolds(e.Point.Node) {
			e.Point.T, e.N = c.T, min(mostN, max(1, c.N+r.Intn(3)-1))
			if r.Intn(2) == 0 {
				break
			}
		}
	}
	if e.Kind != kFeed || r.Intn(8) == 0 {
		e.Seq = r.Intn(5)
	}
	if r.Intn(20) == 0 {
		f := fields()[r.Intn(8)]
		*f.of(&e) = ends[r.Intn(len(ends))]
	}
	return e
}

// P11.2 to P11.4 by their words: entries at random, of graphs at random, step by step.
func TestByChance(t *testing.T) {
	r := rand.New(rand.NewSource(112))
	seen := map[[2]int]int{}
	for range 400 {
		g := someGraph(r)
		if err, _ := graph.Check(g); err != 0 {
			g = graphs()[r.Intn(len(graphs()))]
		}
		b, m := newBook(t, g)
		for range 60 {
			e := someEntry(r, m)
			may, want := b.May(e), m.wantEnter(e)
			if got := b.Enter(e); got != want || may != want {
				t.Fatalf("%v: Enter(%v): got %d and %d, want %d", g, e, may, got, want)
			}
			check(t, "by chance", b, m)
			p, n := Moves(e)
			if wantP, wantN := wantMoves(e); p != wantP || n != wantN {
				t.Errorf("Moves(%v): got %v %d", e, p, n)
			}
			seen[[2]int{e.Kind, int(want)}]++
		}
	}
	for _, kind := range kinds {
		if seen[[2]int{kind, 0}] < 100 || seen[[2]int{kind, int(form)}] < 100 {
			t.Errorf("kind %d: only these results: %v", kind, seen)
		}
	}
	for _, both := range [][2]int{{kFeed, int(hold)}, {kHold, int(hold)}, {kSend, int(hold)}, {kDrop, int(over)}} {
		if seen[both] < 100 {
			t.Errorf("only these results: %v", seen)
		}
	}
}

// P11.5: nothing is ever held a negative number of times, and what is entered, except by KFeed and KTake, can be reached from what was held before it.
func TestWhatIsEnteredResultsFromWhatIsHeld(t *testing.T) {
	r := rand.New(rand.NewSource(113))
	entered := map[int]int{}
	for range 300 {
		g := someGraph(r)
		closure, err := graph.Closure(g)
		if err != 0 {
			g = graphs()[r.Intn(len(graphs()))]
			closure, _ = graph.Closure(g)
		}
		b, m := newBook(t, g)
		for range 60 {
			e := someEntry(r, m)
			var before []api.Point
			for node := range g.Nodes {
				for _, c := range b.Holds(node) {
					before = append(before, api.Point{Node: node, T: c.T})
				}
			}
			got, want := b.Enter(e), m.wantEnter(e)
			if got != want {
				t.Fatalf("%v: Enter(%v): got %d, want %d", g, e, got, want)
			}
			for node := range g.Nodes {
				if l := b.Holds(node); slices.ContainsFunc(l, func(c api.Count) bool { return c.N < 1 || c.N > most }) {
					t.Errorf("%v: %v is held at %d", g, l, node)
				}
			}
			if got != 0 || e.Kind == kFeed || e.Kind == kTake {
				continue
			}
			entered[e.Kind]++
			if !slices.ContainsFunc(before, func(p api.Point) bool { return reach.Could(closure, p, e.Point) }) {
				t.Errorf("%v: %v can't be reached from %v", g, e, before)
			}
		}
	}
	if entered[kHold] < 100 || entered[kDrop] < 100 || entered[kSend] < 100 {
		t.Errorf("only these were entered: %v", entered)
	}
}

// P11.5, P11.2: the same entries in any order, where each is permitted, lead to the same.
func TestOrderOfEntries(t *testing.T) {
	g := looped(2)
	entries := []api.Entry{feed(at(0, 1, 1), 3), take(at(0, 0, 2), 0, 1), take(at(1, 0, 0), 1, 4), take(at(1, 0, 0), 1, 1), feed(at(0, 0, 0), 2), feed(at(0, 1, 1), 4)}
	r := rand.New(rand.NewSource(114))
	for range 20 {
		r.Shuffle(len(entries), func(i, j int) { entries[i], entries[j] = entries[j], entries[i] })
		b, _ := bookOf(t, g, entries...)
		zero, one := []api.Count{count(0, 0, 2), count(0, 2, 1), count(1, 1, 7)}, []api.Count{count(0, 0, 5)}
		if !slices.Equal(b.Holds(0), zero) || !slices.Equal(b.Holds(1), one) {
			t.Errorf("%v: got %v and %v", entries, b.Holds(0), b.Holds(1))
		}
	}
}

// P11.1, R3: two books of one graph share nothing.
func TestBooksAreApart(t *testing.T) {
	g := graphs()[4]
	one, m := bookOf(t, g, stateOf(g)...)
	other, n := newBook(t, g)
	entries := pool(g, []int{0, 1, 2, 3})
	checkAll(t, "the other one", other, n, entries)
	for _, e := range []api.Entry{feed(at(0, 0, 0), 5), take(at(1, 1, 0), 0, 1), drop(at(0, 0, 0), 4), holds(at(1, 9, 9), 2)} {
		enter(t, "the other one", other, n, e, 0)
		checkAll(t, "the one", one, m, entries)
		checkAll(t, "the other one", other, n, entries)
	}
	for node := range g.Nodes {
		for _, c := range one.Holds(node) {
			enter(t, "the one", one, m, drop(api.Point{Node: node, T: c.T}, c.N), 0)
		}
	}
	checkAll(t, "the one, emptied", one, m, entries)
	checkAll(t, "the other one", other, n, entries)
}

// R4, R5: books that are used by a goroutine each don't disturb one another.
func TestTogether(t *testing.T) {
	g := graphs()[4]
	var all sync.WaitGroup
	for i := range 8 {
		b, m := newBook(t, g)
		r := rand.New(rand.NewSource(int64(i % 2)))
		all.Go(func() {
			for range 300 {
				e := someEntry(r, m)
				if got, want := b.Enter(e), m.wantEnter(e); got != want {
					t.Errorf("Enter(%v): got %d, want %d", e, got, want)
				}
			}
			check(t, "together", b, m)
		})
	}
	all.Wait()
}

// P0: very many points are held; none of them is refused, and what depends on them is found.
func TestManyPoints(t *testing.T) {
	const n = 60000
	b, m := newBook(t, graphOf(2, edge(0, 1, 0, 1)))
	for i := range n {
		for _, p := range []api.Point{at(0, i, n-1-i), at(0, i, n+5)} {
			if got := b.Enter(feed(p, 1+i%3)); got != 0 {
				t.Fatalf("Enter %d: got %d", i, got)
			}
			m.counts[p] = 1 + i%3
		}
	}
	check(t, "many", b, m)
	for _, c := range []struct {
		e    api.Entry
		want api.Errno
	}{
		{holds(at(0, n/2, n/2), 1), 0}, {holds(at(0, n/2, n/2-2), 1), hold}, {holds(at(0, 0, n-2), 1), hold}, {holds(at(0, n-1, 0), 1), 0},
		{send(at(1, n/2, n/2), 0, 1), 0}, {send(at(1, n/2, n/2-1), 0, 1), hold}, {send(at(1, 0, n), 0, 1), 0}, {send(at(1, n, 0), 0, 1), hold},
	} {
		if got := b.May(c.e); got != c.want {
			t.Errorf("May(%v): got %d, want %d", c.e, got, c.want)
		}
	}
	for p, n := range m.counts {
		if got := b.Enter(drop(p, n)); got != 0 {
			t.Fatalf("drop of %v: got %d", p, got)
		}
	}
	if got := b.Holds(0); len(got) != 0 {
		t.Errorf("got %d", len(got))
	}
}

// P0, P11.1 to P11.4: any graph and any entries at all; four bytes are an edge, and eight an entry.
func FuzzBook(f *testing.F) {
	f.Add(2, []byte{0, 1, 0, 1}, []byte{5, 0, 0, 0, 0, 0, 0, 1, 3, 0, 1, 0, 1, 0, 0, 1, 2, 0, 0, 0, 0, 0, 0, 2})
	f.Add(2, []byte{0, 1, 0, 1, 1, 0, 0, 1}, []byte{5, 0, 0, 0, 0, 0, 0, 1, 4, 1, 1, 0, 1, 0, 2, 3, 1, 2, 1, 1, 1, 0, 0, 1, 2, 3, 1, 0, 1, 0, 0, 3})
	f.Add(0, []byte{}, []byte{})
	f.Add(9, []byte{0, 0, 0, 1}, []byte{5, 0, 0, 0, 0, 0, 0, 1})
	f.Add(1, []byte{0, 0, 0, 0}, []byte{5, 0, 0, 0, 0, 0, 0, 1})
	f.Add(1, []byte{0, 0, 241, 0}, []byte{5, 0, 0, 250, 0, 0, 0, 250, 6, 0, 0, 0, 0, 0, 0, 1, 3, 1, 0, 255, 0, 0, 0, 1})
	part := func(n byte) int {
		if n < 230 {
			return int(n % 7)
		}
		return ends[int(n-230)%len(ends)]
	}
	f.Fuzz(func(t *testing.T, nodes int, edges, entries []byte) {
		g := graphOf(nodes)
		for ; len(edges) >= 4; edges = edges[4:] {
			g.Edges = append(g.Edges, edge(int(int8(edges[0])), int(int8(edges[1])), part(edges[2]), part(edges[3])))
		}
		b, err := New(g)
		if want, _ := graph.Check(g); err != want || (b == nil) != (want != 0) {
			t.Fatalf("New(%v): got %v %d, want %d", g, b, err, want)
		}
		m := plain{g, map[api.Point]int{}}
		for ; len(entries) >= 8 && err == 0; entries = entries[8:] {
			e := api.Entry{Kind: part(entries[0]), Seq: part(entries[1]), Point: at(part(entries[2]), part(entries[3]), part(entries[4]))}
			e.Edge, e.Peer, e.N = part(entries[5]), part(entries[6]), part(entries[7])
			may, want := b.May(e), m.wantEnter(e)
			if got := b.Enter(e); got != want || may != want {
				t.Errorf("%v: Enter(%v): got %d and %d, want %d", g, e, may, got, want)
			}
			check(t, "behind an entry", b, m)
			p, n := Moves(e)
			if wantP, wantN := wantMoves(e); p != wantP || n != wantN {
				t.Errorf("Moves(%v): got %v %d", e, p, n)
			}
		}
	})
}
