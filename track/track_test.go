package track

import (
	"maps"
	"math"
	"math/big"
	"math/rand"
	"slices"
	"testing"

	"garboard/api"
	"garboard/graph"
)

// The limits, by their numbers, so that no test leans on the constants.
const (
	mostNodes = 8
	mostPart  = 1000000
	most      = 1000000000
)

// ends are parts that are valid, that just aren't, and the type's own ends.
var ends = []int{math.MinInt, math.MinInt + 1, -1000001, -1000000, -1, 0, 1, 999999, 1000000, 1000001, math.MaxInt - 1, math.MaxInt}

func at(node, epoch, round int) api.Point {
	return api.Point{Node: node, T: st(epoch, round)}
}

func st(epoch, round int) api.Stamp { return api.Stamp{Epoch: epoch, Round: round} }

func count(epoch, round, n int) api.Count { return api.Count{T: st(epoch, round), N: n} }

func edge(from, to, epoch, round int) api.Edge {
	return api.Edge{From: from, To: to, Path: api.Path{Epoch: epoch, Round: round}}
}

func graphOf(nodes int, edges ...api.Edge) api.Graph {
	return api.Graph{Nodes: nodes, Edges: edges}
}

// loop goes from 0 to 1, and a round later back.
func loop() api.Graph { return graphOf(2, edge(0, 1, 0, 0), edge(1, 0, 0, 1)) }

// valid, lessEq, ahead and covers are in the document's words, so that no test leans on packages stamp and anti.
func valid(t api.Stamp) bool {
	return t.Epoch >= 0 && t.Epoch <= mostPart && t.Round >= 0 && t.Round <= mostPart
}

func lessEq(a, b api.Stamp) bool { return a.Epoch <= b.Epoch && a.Round <= b.Round }

func ahead(a, b api.Stamp) bool {
	return a.Epoch < b.Epoch || a.Epoch == b.Epoch && a.Round < b.Round
}

func covers(l []api.Stamp, t api.Stamp) bool {
	return slices.ContainsFunc(l, func(s api.Stamp) bool { return lessEq(s, t) })
}

// wantMin holds each timestamp against all others, and puts it at its place.
func wantMin(l []api.Stamp) []api.Stamp {
	var least []api.Stamp
	for _, t := range l {
		if slices.ContainsFunc(l, func(s api.Stamp) bool { return s != t && lessEq(s, t) }) {
			continue
		}
		i := 0
		for i < len(least) && ahead(least[i], t) {
			i++
		}
		if i == len(least) || least[i] != t {
			least = slices.Insert(least, i, t)
		}
	}
	return least
}

// arrivals are the least timestamps at each node at which something arrives that is at p and goes along the edges of g.
// Walks of more edges than there are nodes bring nothing that is less.
func arrivals(g api.Graph, p api.Point) [][]api.Stamp {
	come := make([][]api.Stamp, g.Nodes)
	come[p.Node] = []api.Stamp{p.T}
	for range g.Nodes {
		for _, e := range g.Edges {
			for _, s := range come[e.From] {
				if after := st(s.Epoch+e.Path.Epoch, s.Round+e.Path.Round); valid(after) {
					come[e.To] = append(slices.Clone(come[e.To]), after)
				}
			}
			come[e.To] = wantMin(come[e.To])
		}
	}
	return come
}

// plain is a track by the document's words: a graph, and the counts of its points, zeros among them.
type plain struct {
	g      api.Graph
	counts map[api.Point]int
}

func (m plain) right(p api.Point) bool { return p.Node >= 0 && p.Node < m.g.Nodes && valid(p.T) }

// wantAdd adds as Add should, by the words of P8.2 and P4.1.
func (m plain) wantAdd(p api.Point, n int) api.Errno {
	if !m.right(p) {
		return 1
	}
	sum := new(big.Int).Add(big.NewInt(int64(m.counts[p])), big.NewInt(int64(n)))
	if sum.CmpAbs(big.NewInt(most)) > 0 {
		return 9
	}
	m.counts[p] += n
	return 0
}

// wantAt is At by the words of P8.2.
func (m plain) wantAt(node int) []api.Count {
	var all []api.Count
	for p, n := range m.counts {
		if p.Node == node && n != 0 {
			all = append(all, api.Count{T: p.T, N: n})
		}
	}
	slices.SortFunc(all, func(a, b api.Count) int {
		if ahead(a.T, b.T) {
			return -1
		}
		return 1
	})
	return all
}

// wantFrontiers are the Frontiers of all nodes by the words of P8.3.
func (m plain) wantFrontiers() [][]api.Stamp {
	come := make([][]api.Stamp, m.g.Nodes)
	for p, n := range m.counts {
		if n > 0 {
			for node, l := range arrivals(m.g, p) {
				come[node] = append(come[node], l...)
			}
		}
	}
	for node, l := range come {
		come[node] = wantMin(l)
	}
	return come
}

// newTrack is a track of a graph that is expected to have one, and what it is held against.
func newTrack(t *testing.T, g api.Graph) (*Track, plain) {
	t.Helper()
	x, err := New(g)
	if err != api.OK || x == nil {
		t.Fatalf("New(%v): got %v %d", g, x, err)
	}
	return x, plain{g, map[api.Point]int{}}
}

// add is a call of Add.
type add struct {
	p api.Point
	n int
}

// trackOf is a track of g with these Adds, each of which must be taken.
func trackOf(t *testing.T, g api.Graph, adds ...add) (*Track, plain) {
	t.Helper()
	x, m := newTrack(t, g)
	for _, a := range adds {
		if got := x.Add(a.p, a.n); got != 0 || m.wantAdd(a.p, a.n) != 0 {
			t.Fatalf("Add(%v, %d): got %d", a.p, a.n, got)
		}
	}
	return x, m
}

// check holds all results of x against those of m, with those of nodes that are not there.
func check(t *testing.T, what string, x *Track, m plain) {
	t.Helper()
	for node, want := range m.wantFrontiers() {
		if got := x.Frontier(node); !slices.Equal(got, want) {
			t.Errorf("%s: Frontier(%d): got %v, want %v", what, node, got, want)
		}
		if got, want := x.At(node), m.wantAt(node); !slices.Equal(got, want) {
			t.Errorf("%s: At(%d): got %v, want %v", what, node, got, want)
		}
		for _, s := range around(want) {
			if got, want := x.Passed(api.Point{Node: node, T: s}), valid(s) && !covers(want, s); got != want {
				t.Errorf("%s: Passed(%d at %v): got %v", what, node, s, got)
			}
		}
	}
	for _, node := range []int{-1, m.g.Nodes, mostNodes} {
		if node != mostNodes || m.g.Nodes < mostNodes {
			checkNoNode(t, x, node)
		}
	}
}

// around are timestamps at, just ahead of and just behind those of l, and the least and greatest of all, and beyond.
func around(l []api.Stamp) []api.Stamp {
	list := []api.Stamp{st(0, 0), st(mostPart, mostPart), st(-1, 0), st(0, -1), st(mostPart+1, mostPart), st(mostPart, mostPart+1)}
	for i, s := range l {
		for _, e := range []int{-1, 0, 1} {
			list = append(list, st(s.Epoch+e, s.Round-1), st(s.Epoch+e, s.Round), st(s.Epoch+e, s.Round+1))
		}
		if i > 0 {
			list = append(list, st(l[i-1].Epoch, s.Round), st(s.Epoch, l[i-1].Round), st(s.Epoch-1, l[i-1].Round-1))
		}
	}
	return list
}

// checkNoNode checks that x has nothing of a node.
func checkNoNode(t *testing.T, x *Track, node int) {
	t.Helper()
	if l, c := x.Frontier(node), x.At(node); len(l) != 0 || len(c) != 0 {
		t.Errorf("node %d: got %v and %v", node, l, c)
	}
	if x.Passed(at(node, 0, 0)) || x.Passed(at(node, 9, 9)) {
		t.Errorf("node %d: is passed", node)
	}
}

// isEmpty checks that nothing is at any node, that nothing can arrive, and that nothing is kept.
func isEmpty(t *testing.T, what string, x *Track, nodes int) {
	t.Helper()
	for node := range nodes {
		if l, c := x.Frontier(node), x.At(node); len(l) != 0 || len(c) != 0 {
			t.Errorf("%s: node %d: got %v and %v", what, node, l, c)
		}
		for _, p := range []api.Point{at(node, 0, 0), at(node, 5, 0), at(node, mostPart, mostPart)} {
			if !x.Passed(p) {
				t.Errorf("%s: %v is not passed", what, p)
			}
		}
		if kept := x.reached[node].All(); len(kept) != 0 {
			t.Errorf("%s: node %d: %v is kept", what, node, kept)
		}
	}
}

// The chapter's examples, and those of the whole.
func TestExamples(t *testing.T) {
	x, m := newTrack(t, graphOf(2, edge(0, 1, 0, 0)))
	if got := x.Add(at(0, 1, 0), 1); got != 0 {
		t.Errorf("Add: got %d", got)
	}
	if got := x.Frontier(1); !slices.Equal(got, []api.Stamp{st(1, 0)}) {
		t.Errorf("Frontier: got %v", got)
	}
	if !x.Passed(at(1, 0, 9)) {
		t.Error("Passed: got false")
	}
	if got := x.Add(at(0, 1, 0), -1); got != 0 {
		t.Errorf("Add of -1: got %d", got)
	}
	isEmpty(t, "taken away", x, m.g.Nodes)
	x, _ = trackOf(t, loop(), add{at(0, 2, 3), 1})
	if got := x.Frontier(1); !slices.Equal(got, []api.Stamp{st(2, 3)}) {
		t.Errorf("Frontier behind the edge: got %v", got)
	}
	if x.Passed(at(0, 2, 4)) || x.Passed(at(1, 2, 3)) || !x.Passed(at(0, 2, 2)) || !x.Passed(at(1, 1, 9)) {
		t.Error("Passed around the loop")
	}
}

// doubled leads from node 0 to node hops by two edges for each hop, with 2 to the power of hops incomparable sums.
func doubled(nodes, hops int) api.Graph {
	g := graphOf(nodes)
	for i := range hops {
		g.Edges = append(g.Edges, edge(i, i+1, 1<<i, 0), edge(i, i+1, 0, 1<<i))
	}
	return g
}

// P8.1: graphs that have no closure, and those that are just within its limits.
func TestNewErrors(t *testing.T) {
	cases := []struct {
		name string
		g    api.Graph
		want api.Errno
	}{
		{"the zero graph", api.Graph{}, 4},
		{"no node", graphOf(0, edge(0, 0, 0, 1)), 4},
		{"-1 nodes", graphOf(-1), 4},
		{"9 nodes", graphOf(9), 4},
		{"the least number of nodes", graphOf(math.MinInt), 4},
		{"the greatest number of nodes", graphOf(math.MaxInt), 4},
		{"16 edges", graphOf(2, slices.Repeat([]api.Edge{edge(0, 1, 0, 0)}, 16)...), 0},
		{"17 edges", graphOf(2, slices.Repeat([]api.Edge{edge(0, 1, 0, 0)}, 17)...), 4},
		{"from -1", graphOf(2, edge(-1, 0, 0, 1)), 4},
		{"to -1", graphOf(2, edge(0, -1, 0, 1)), 4},
		{"from a node too great", graphOf(2, edge(2, 0, 0, 1)), 4},
		{"to a node too great", graphOf(2, edge(0, 1, 0, 0), edge(0, 2, 0, 1)), 4},
		{"a path of epoch -1", graphOf(2, edge(0, 1, -1, 0)), 4},
		{"a path of round -1", graphOf(2, edge(0, 1, 0, -1)), 4},
		{"the greatest path", graphOf(2, edge(0, 1, mostPart, mostPart)), 0},
		{"a path of an epoch too great", graphOf(2, edge(0, 1, mostPart+1, 0)), 4},
		{"a path of a round too great", graphOf(2, edge(0, 1, 0, mostPart+1)), 4},
		{"a zero loop at one node", graphOf(1, edge(0, 0, 0, 0)), 5},
		{"a zero loop", graphOf(2, edge(0, 1, 0, 0), edge(1, 0, 0, 0)), 5},
		{"a zero loop beside others", graphOf(3, edge(0, 1, 0, 1), edge(1, 2, 0, 0), edge(2, 1, 0, 0)), 5},
		{"a loop that is not zero", loop(), 0},
		{"an edge that is not valid, and a zero loop", graphOf(1, edge(0, 0, 0, 0), edge(0, 1, 0, 0)), 4},
		{"64 paths to a node", doubled(7, 6), 0},
		{"128 paths to a node", doubled(8, 7), 10},
	}
	for _, c := range cases {
		x, err := New(c.g)
		if err != c.want || (x == nil) != (c.want != 0) {
			t.Errorf("%s: got %v %d, want %d", c.name, x, err, c.want)
		}
		if c.want == 0 {
			isEmpty(t, c.name, x, c.g.Nodes)
		}
	}
}

// P8.1: of any graph the error is that of graph.Closure.
func TestNewHasTheErrorOfTheClosure(t *testing.T) {
	r := rand.New(rand.NewSource(81))
	seen := map[api.Errno]int{}
	for range 3000 {
		g := graphOf(1 + r.Intn(mostNodes))
		for range r.Intn(12) {
			g.Edges = append(g.Edges, edge(r.Intn(g.Nodes), r.Intn(g.Nodes), r.Intn(3), r.Intn(3)))
		}
		switch r.Intn(8) {
		case 0:
			g.Nodes = r.Intn(40) - 20
		case 1:
			g.Edges = append(g.Edges, edge(r.Intn(10)-1, r.Intn(10)-1, r.Intn(10)-1, r.Intn(10)-1))
		case 2:
			g = doubled(g.Nodes, g.Nodes-1)
		}
		_, want := graph.Closure(g)
		x, err := New(g)
		if err != want || (x == nil) != (want != 0) {
			t.Errorf("New(%v): got %v %d, want %d", g, x, err, want)
		}
		seen[err]++
	}
	if seen[0] < 30 || seen[4] < 30 || seen[5] < 30 || seen[10] < 30 {
		t.Errorf("only these results: %v", seen)
	}
}

// P8.1 to P8.3: graphs without edges; what is at a node can arrive there alone.
func TestNoEdges(t *testing.T) {
	for n := 1; n <= mostNodes; n++ {
		for from := range n {
			x, m := newTrack(t, graphOf(n))
			isEmpty(t, "new", x, n)
			for _, a := range []add{{at(from, 3, 4), 2}, {at(from, 4, 3), 1}, {at(from, 4, 4), 1}, {at(from, 9, 0), -1}} {
				if got, want := x.Add(a.p, a.n), m.wantAdd(a.p, a.n); got != want {
					t.Errorf("%d nodes: Add(%v, %d): got %d", n, a.p, a.n, got)
				}
				check(t, "no edges", x, m)
			}
			for node := range n {
				if got := len(x.Frontier(node)); (got == 2) != (node == from) || (got == 0) != (node != from) {
					t.Errorf("%d nodes, from %d to %d: got %d", n, from, node, got)
				}
			}
		}
	}
}

// P8.2, P8.3: nodes that are there, that just aren't, and the type's ends.
func TestNodes(t *testing.T) {
	for n := 1; n <= mostNodes; n++ {
		for _, node := range []int{math.MinInt, -8, -2, -1, 0, 1, 2, 3, 4, 5, 6, 7, 8, 9, 16, math.MaxInt} {
			x, m := trackOf(t, graphOf(n), add{at(0, 2, 2), 3}, add{at(n-1, 1, 3), -3})
			want := api.Errno(0)
			if node < 0 || node >= n {
				want = 1
				checkNoNode(t, x, node)
			}
			if got := x.Add(at(node, 5, 1), 4); got != want || m.wantAdd(at(node, 5, 1), 4) != want {
				t.Errorf("%d nodes: Add at node %d: got %d", n, node, got)
			}
			if want != 0 {
				checkNoNode(t, x, node)
			}
			check(t, "with one more", x, m)
		}
	}
}

// P8.2, P8.3: timestamps that are valid, that just aren't, and the type's ends.
func TestTimestamps(t *testing.T) {
	for _, epoch := range ends {
		for _, round := range ends {
			for _, n := range []int{1, -1, 0, most, -most} {
				x, m := trackOf(t, loop(), add{at(0, 5, 7), 1})
				p, want := at(1, epoch, round), api.Errno(0)
				if !valid(p.T) {
					want = 1
				}
				if got := x.Add(p, n); got != want || m.wantAdd(p, n) != want {
					t.Errorf("Add(%v, %d): got %d, want %d", p, n, got, want)
				}
				if want != 0 && (x.Passed(p) || x.Passed(at(0, epoch, round))) {
					t.Errorf("%v is passed", p)
				}
				check(t, "with one more", x, m)
			}
		}
	}
}

// P8.2, P0: of both errors ErrArg comes first.
func TestErrArgComesFirst(t *testing.T) {
	for _, p := range []api.Point{at(-1, 0, 0), at(2, 0, 0), at(0, -1, 0), at(0, 0, -1), at(1, mostPart+1, 0), at(1, 0, mostPart+1), at(9, -9, -9)} {
		for _, n := range []int{most + 1, -most - 1, math.MaxInt, math.MinInt} {
			x, m := trackOf(t, loop(), add{at(0, 5, 7), 1})
			if got := x.Add(p, n); got != 1 {
				t.Errorf("Add(%v, %d): got %d", p, n, got)
			}
			check(t, "after an error", x, m)
		}
	}
}

// P8.2: numbers and sums just within and just beyond what bag.Add takes; after an error the track is as it was.
func TestLimits(t *testing.T) {
	p := at(0, 3, 3)
	numbers := []int{
		0, 1, -1, 2, -2, most - 1, most, most + 1, most + 2, 1 - most, -most, -most - 1, -most - 2,
		2 * most, 2*most + 1, -2 * most, -2*most - 1, math.MaxInt - most, math.MaxInt, math.MinInt + most, math.MinInt,
	}
	results := map[api.Errno]int{}
	for _, was := range []int{-most, 1 - most, -1, 0, 1, most - 1, most} {
		for _, n := range numbers {
			// Another point leads to the same timestamps, and one lies behind.
			x, m := trackOf(t, loop(), add{p, was}, add{at(1, 3, 2), 1}, add{at(1, 0, 9), most}, add{at(0, 4, 4), -most})
			got, want := x.Add(p, n), m.wantAdd(p, n)
			if got != want {
				t.Errorf("%d and %d: got %d, want %d", was, n, got, want)
			}
			results[want]++
			check(t, "behind it", x, m)
			if got, want := x.Add(p, -m.counts[p]), m.wantAdd(p, -m.counts[p]); got != want {
				t.Errorf("%d and %d, and back to 0: got %d", was, n, got)
			}
			check(t, "back to 0", x, m)
		}
	}
	if results[0] < 30 || results[9] < 30 {
		t.Errorf("only these results: %v", results)
	}
}

// P8.2, P8.3: a single point's count is limited, not that of all that lead to one timestamp.
func TestLimitIsOfOnePoint(t *testing.T) {
	g := graphOf(mostNodes)
	for i := range mostNodes - 1 {
		g.Edges = append(g.Edges, edge(i, mostNodes-1, 0, i), edge(i, mostNodes-1, i, 0))
	}
	x, m := newTrack(t, g)
	points := []api.Point{at(0, 10, 10), at(mostNodes-1, 10, 10)}
	for i := 1; i < mostNodes-1; i++ {
		points = append(points, at(i, 10, 10-i), at(i, 10-i, 10))
	}
	for _, n := range []int{most, -most, -most, most} {
		for _, p := range points {
			if got, want := x.Add(p, n), m.wantAdd(p, n); got != 0 || want != 0 {
				t.Errorf("Add(%v, %d): got %d", p, n, got)
			}
			check(t, "one after the other", x, m)
		}
	}
	isEmpty(t, "all are gone", x, mostNodes)
}

// P8.2, P8.3: counts through 0 and back, step by step; only what is positive holds something back.
func TestThroughZero(t *testing.T) {
	cases := []struct {
		name  string
		steps []int
	}{
		{"up, down and up", []int{1, -1, 1}},
		{"down, up and down", []int{-1, 1, -1}},
		{"by more than one", []int{5, -2, -2, -1, 3, 4, -7}},
		{"over 0 in one step", []int{2, -5, 5, -2, -1, 9, -9}},
		{"below 0, and up to it", []int{-3, 1, 1, 1, 1}},
		{"by the limits", []int{most, -most, -most, most, 1}},
		{"from limit to limit", []int{most, -2 * most, 2 * most, -most}},
		{"0 added", []int{0, 0, 1, 0, -1, 0, -1, 0}},
		{"refused on the way", []int{1, most, -most - 2, -1, most + 1, -most - 1, 1, -2, most + 2, 2}},
	}
	for _, c := range cases {
		for _, beside := range []add{{at(0, 9, 9), 0}, {at(0, 9, 9), 1}, {at(1, 3, 0), 1}, {at(1, 0, 3), 2}, {at(0, 0, 0), 1}, {at(0, 0, 0), -1}} {
			x, m := trackOf(t, loop(), beside)
			for _, n := range c.steps {
				for _, p := range []api.Point{at(0, 2, 1), at(1, 2, 1)} {
					if got, want := x.Add(p, n), m.wantAdd(p, n); got != want {
						t.Errorf("%s: Add(%v, %d): got %d, want %d", c.name, p, n, got, want)
					}
					check(t, c.name, x, m)
				}
			}
		}
	}
}

// P8.2: At has positive and negative counts, in increasing order of their timestamps, those of its node alone.
func TestAt(t *testing.T) {
	adds := []add{
		{at(0, 2, 0), 1}, {at(0, 0, 2), -1}, {at(0, 1, 1), most}, {at(0, 1, 0), -most}, {at(0, 0, mostPart), 4},
		{at(0, mostPart, 0), -4}, {at(0, 1, 2), 3}, {at(0, 1, 2), -3}, {at(0, 2, 0), 6}, {at(1, 1, 1), -2}, {at(1, 0, 0), 2},
	}
	want := [][]api.Count{
		{count(0, 2, -1), count(0, mostPart, 4), count(1, 0, -most), count(1, 1, most), count(2, 0, 7), count(mostPart, 0, -4)},
		{count(0, 0, 2), count(1, 1, -2)}, nil,
	}
	for _, edges := range [][]api.Edge{nil, {edge(0, 1, 0, 0), edge(1, 2, 0, 1), edge(2, 0, 1, 0)}} {
		x, m := trackOf(t, graphOf(3, edges...), adds...)
		for node, l := range want {
			if got := x.At(node); !slices.Equal(got, l) {
				t.Errorf("At(%d): got %v, want %v", node, got, l)
			}
		}
		check(t, "counts", x, m)
		slices.Reverse(adds)
		x, m = trackOf(t, graphOf(3, edges...), adds...)
		check(t, "the other way round", x, m)
	}
}

// P8.3: frontiers that are written out, from 0 to 1 with (0, 0) and (0, 2), from 1 to 2 with (1, 0) and (0, 3), and from 2 to 1 with (0, 1).
func TestFrontier(t *testing.T) {
	g := graphOf(3, edge(0, 1, 0, 0), edge(0, 1, 0, 2), edge(1, 2, 1, 0), edge(1, 2, 0, 3), edge(2, 1, 0, 1))
	cases := []struct {
		name string
		adds []add
		want [3][]api.Stamp
	}{
		{"nothing", nil, [3][]api.Stamp{}},
		{"one at 0", []add{{at(0, 2, 3), 1}},
			[3][]api.Stamp{{st(2, 3)}, {st(2, 3)}, {st(2, 6), st(3, 3)}}},
		{"one at 2", []add{{at(2, 2, 3), 1}},
			[3][]api.Stamp{nil, {st(2, 4)}, {st(2, 3)}}},
		{"a negative one", []add{{at(0, 2, 3), -1}}, [3][]api.Stamp{}},
		{"a negative one ahead", []add{{at(0, 0, 0), -1}, {at(0, 2, 3), 1}},
			[3][]api.Stamp{{st(2, 3)}, {st(2, 3)}, {st(2, 6), st(3, 3)}}},
		{"a negative one at the same timestamp, at another node", []add{{at(0, 2, 3), 1}, {at(1, 2, 3), -9}},
			[3][]api.Stamp{{st(2, 3)}, {st(2, 3)}, {st(2, 6), st(3, 3)}}},
		{"two lead to the same timestamp", []add{{at(0, 2, 3), 1}, {at(1, 2, 3), 1}, {at(2, 2, 2), 1}},
			[3][]api.Stamp{{st(2, 3)}, {st(2, 3)}, {st(2, 2)}}},
		{"and one of them is gone", []add{{at(0, 2, 3), 1}, {at(1, 2, 3), 1}, {at(2, 2, 2), 1}, {at(2, 2, 2), -1}, {at(0, 2, 3), -1}},
			[3][]api.Stamp{nil, {st(2, 3)}, {st(2, 6), st(3, 3)}}},
		{"comparable ones", []add{{at(1, 5, 5), 1}, {at(1, 4, 4), 1}, {at(1, 6, 6), 1}},
			[3][]api.Stamp{nil, {st(4, 4)}, {st(4, 7), st(5, 4)}}},
		{"the least of them is gone", []add{{at(1, 5, 5), 1}, {at(1, 4, 4), 1}, {at(1, 6, 6), 1}, {at(1, 4, 4), -1}},
			[3][]api.Stamp{nil, {st(5, 5)}, {st(5, 8), st(6, 5)}}},
		{"incomparable ones", []add{{at(0, 5, 0), 1}, {at(1, 0, 9), 2}, {at(2, 3, 3), 3}},
			[3][]api.Stamp{{st(5, 0)}, {st(0, 9), st(3, 4), st(5, 0)}, {st(0, 12), st(1, 9), st(3, 3), st(6, 0)}}},
		{"an edge goes beyond the greatest epoch", []add{{at(1, mostPart, 5), 1}},
			[3][]api.Stamp{nil, {st(mostPart, 5)}, {st(mostPart, 8)}}},
		{"an edge goes beyond the greatest round", []add{{at(1, 5, mostPart-2), 1}},
			[3][]api.Stamp{nil, {st(5, mostPart-2)}, {st(6, mostPart-2)}}},
		{"all edges go beyond", []add{{at(1, mostPart, mostPart), 1}, {at(2, 7, mostPart), 1}},
			[3][]api.Stamp{nil, {st(mostPart, mostPart)}, {st(7, mostPart)}}},
		{"beyond from one of two", []add{{at(0, mostPart, mostPart-1), 1}, {at(2, mostPart, mostPart-1), 1}},
			[3][]api.Stamp{{st(mostPart, mostPart-1)}, {st(mostPart, mostPart-1)}, {st(mostPart, mostPart-1)}}},
	}
	for _, c := range cases {
		for range 2 {
			x, m := trackOf(t, g, c.adds...)
			for node, want := range c.want {
				if got := x.Frontier(node); !slices.Equal(got, want) {
					t.Errorf("%s: Frontier(%d): got %v, want %v", c.name, node, got, want)
				}
			}
			check(t, c.name, x, m)
			for _, p := range slices.Collect(maps.Keys(m.counts)) {
				x.Add(p, -m.counts[p])
			}
			isEmpty(t, c.name+", and all back to 0", x, 3)
			slices.Reverse(c.adds)
		}
	}
}

// P8.3: points that are equal to one of the frontier, covered, just ahead of it, incomparable, or not valid; the frontier at node 1 is (2, 9), (5, 4).
func TestPassed(t *testing.T) {
	g := graphOf(3, edge(0, 1, 0, 6), edge(0, 1, 3, 1), edge(0, 1, 3, 2))
	x, m := trackOf(t, g, add{at(0, 2, 3), 2}, add{at(1, 6, 9), 1}, add{at(1, 0, 0), -1})
	cases := []struct {
		name string
		p    api.Point
		want bool
	}{
		{"equal to the first", at(1, 2, 9), false},
		{"equal to the last", at(1, 5, 4), false},
		{"an epoch later", at(1, 3, 9), false},
		{"a round later", at(1, 2, 10), false},
		{"what is at it, and covered", at(1, 6, 9), false},
		{"the greatest", at(1, mostPart, mostPart), false},
		{"the greatest epoch", at(1, mostPart, 4), false},
		{"the greatest round", at(1, 2, mostPart), false},
		{"epoch just too small", at(1, 1, 9), true},
		{"round just too small", at(1, 2, 8), true},
		{"epoch just too small for the last", at(1, 4, 4), true},
		{"round just too small for the last", at(1, 5, 3), true},
		{"between both", at(1, 4, 8), true},
		{"incomparable, greatest epoch", at(1, mostPart, 3), true},
		{"incomparable, greatest round", at(1, 1, mostPart), true},
		{"zero, where there is less than nothing", at(1, 0, 0), true},
		{"where it comes from", at(1, 2, 3), true},
		{"at node 0, equal", at(0, 2, 3), false},
		{"at node 0, ahead", at(0, 2, 2), true},
		{"at node 2, where nothing leads", at(2, 0, 0), true},
		{"at node 2, the greatest", at(2, mostPart, mostPart), true},
		{"epoch beyond the limit", at(1, mostPart+1, 9), false},
		{"round beyond the limit", at(1, 1, mostPart+1), false},
		{"epoch -1", at(1, -1, 0), false},
		{"round -1", at(1, 0, -1), false},
		{"the type's least", at(1, math.MinInt, math.MinInt), false},
		{"the type's greatest", at(2, math.MaxInt, math.MaxInt), false},
		{"node -1", at(-1, 0, 0), false},
		{"node 3", at(3, 0, 0), false},
		{"node 8", at(8, 0, 0), false},
	}
	for _, c := range cases {
		if got := x.Passed(c.p); got != c.want {
			t.Errorf("%s: got %v", c.name, got)
		}
	}
	check(t, "asked", x, m)
}

// P8.2, P8.3: a bag takes any number of points; none of them is refused, and what they led to is gone when they are.
func TestManyPoints(t *testing.T) {
	const n = 60000
	x, _ := newTrack(t, graphOf(3, edge(0, 1, 0, 0), edge(1, 2, 1, 0), edge(1, 2, 0, 1)))
	for i := range n {
		if x.Add(at(0, i, n-1-i), 1+i%3) != 0 || x.Add(at(0, i, n+5), 1) != 0 || x.Add(at(0, i, 0), -1) != 0 {
			t.Fatalf("Add %d is refused", i)
		}
	}
	if got := len(x.At(0)); got != 3*n-1 {
		t.Errorf("At: got %d", got)
	}
	for node, want := range []int{n, n, n + 1} {
		if got := len(x.Frontier(node)); got != want {
			t.Errorf("Frontier(%d): got %d, want %d", node, got, want)
		}
	}
	if x.Passed(at(2, n/2, n/2)) || !x.Passed(at(2, n/2, n/2-1)) {
		t.Error("Passed in the middle")
	}
	if got := x.Add(at(0, 7, 0), 1-most); got != 0 {
		t.Errorf("down to the limit: got %d", got)
	}
	if got := x.Add(at(0, 7, 0), -1); got != 9 {
		t.Errorf("beyond the limit: got %d", got)
	}
	for node := range 3 {
		for _, c := range x.At(node) {
			x.Add(api.Point{Node: node, T: c.T}, -c.N)
		}
	}
	isEmpty(t, "taken away", x, 3)
}

// P8.3: as many paths to a node as a closure may have, from points that lead to the same timestamps.
func TestMostPaths(t *testing.T) {
	x, m := newTrack(t, doubled(7, 6))
	for _, n := range []int{1, 1, -3, 2, -1} {
		for i := range 8 {
			p := at(0, i, 7-i)
			if got, want := x.Add(p, n), m.wantAdd(p, n); got != want {
				t.Errorf("Add(%v, %d): got %d", p, n, got)
			}
			check(t, "64 paths", x, m)
		}
	}
	x, m = trackOf(t, doubled(7, 6), add{at(0, 0, 0), 1})
	if got := len(x.Frontier(6)); got != 64 {
		t.Errorf("got %d", got)
	}
	x.Add(at(0, 0, 0), -1)
	isEmpty(t, "taken away", x, m.g.Nodes)
}

// cyclic are graphs with cycles, and one without.
func cyclic() []api.Graph {
	graphs := []api.Graph{
		loop(),
		graphOf(1, edge(0, 0, 0, 1)),
		graphOf(1, edge(0, 0, 1, 0), edge(0, 0, 0, 2)),
		graphOf(2, edge(0, 1, 0, 2), edge(0, 1, 1, 0), edge(1, 0, 1, 0), edge(1, 0, 0, 1)),
		graphOf(3, edge(0, 1, 0, 0), edge(1, 1, 0, 1), edge(1, 2, 0, 0)),
		graphOf(3, edge(0, 1, 0, 0), edge(1, 2, 0, 0), edge(2, 0, 0, 1), edge(1, 1, 1, 0)),
		graphOf(3, edge(0, 1, 0, 1), edge(1, 2, 1, 0), edge(0, 2, 2, 0), edge(0, 2, 0, 2)),
		graphOf(4, edge(0, 1, 0, 0), edge(1, 2, 0, 1), edge(2, 1, 0, 0), edge(2, 3, 0, 0), edge(3, 0, 1, 0)),
	}
	ring := graphOf(mostNodes)
	for i := range mostNodes {
		ring.Edges = append(ring.Edges, edge(i, (i+1)%mostNodes, i/7, i%2))
	}
	return append(graphs, ring)
}

// pointsOf are the points of all nodes with these parts.
func pointsOf(g api.Graph, parts []int) []api.Point {
	var list []api.Point
	for node := range g.Nodes {
		for _, e := range parts {
			for _, r := range parts {
				list = append(list, at(node, e, r))
			}
		}
	}
	return list
}

// P8.4: as long as something is at a point, none that it can reach is passed, whatever comes and goes beside it.
func TestWhatIsReachedIsNotPassed(t *testing.T) {
	r := rand.New(rand.NewSource(82))
	for _, g := range cyclic() {
		for _, parts := range [][]int{{0, 1, 2}, {mostPart - 2, mostPart - 1, mostPart}} {
			points := pointsOf(g, parts)
			for _, p := range points {
				x, _ := trackOf(t, g, add{p, 1 + r.Intn(3)})
				come := arrivals(g, p)
				for range 8 {
					if q := points[r.Intn(len(points))]; q != p {
						x.Add(q, r.Intn(5)-2)
					}
					for _, q := range points {
						if covers(come[q.Node], q.T) && x.Passed(q) {
							t.Errorf("%v: something is at %v, which can reach %v", g, p, q)
						}
					}
				}
			}
		}
	}
}

// P8.4: if what is there goes, and only such points come as can be reached from it, what is passed remains passed, and in the end everything is.
func TestPassedRemainsPassed(t *testing.T) {
	r := rand.New(rand.NewSource(83))
	for _, g := range cyclic() {
		for _, parts := range [][]int{{0, 1, 2, 3}, {mostPart - 3, mostPart - 2, mostPart - 1, mostPart}} {
			points := pointsOf(g, parts)
			for range 6 {
				x, m := newTrack(t, g)
				for range 1 + r.Intn(4) {
					step(t, x, m, points[r.Intn(len(points))], 1+r.Intn(2))
				}
				passed := map[api.Point]bool{}
				for range 60 {
					goOn(t, r, x, m, points)
					for _, p := range points {
						if x.Passed(p) {
							passed[p] = true
						} else if passed[p] {
							t.Errorf("%v: %v is not passed any more", g, p)
						}
					}
				}
				for _, p := range slices.Collect(maps.Keys(m.counts)) {
					step(t, x, m, p, -m.counts[p])
				}
				isEmpty(t, "all are gone", x, g.Nodes)
			}
		}
	}
}

// step adds to the track and to what it is held against.
func step(t *testing.T, x *Track, m plain, p api.Point, n int) {
	t.Helper()
	if got, want := x.Add(p, n), m.wantAdd(p, n); got != 0 || want != 0 {
		t.Fatalf("%v: Add(%v, %d): got %d", m.g, p, n, got)
	}
}

// goOn lets one of the points come that can be reached from one that is there, or takes one away.
func goOn(t *testing.T, r *rand.Rand, x *Track, m plain, points []api.Point) {
	t.Helper()
	var there []api.Point
	for _, p := range points {
		if m.counts[p] > 0 {
			there = append(there, p)
		}
	}
	if len(there) == 0 {
		return
	}
	from := there[r.Intn(len(there))]
	come := arrivals(m.g, from)
	if to := points[r.Intn(len(points))]; covers(come[to.Node], to.T) {
		step(t, x, m, to, 1)
	}
	if r.Intn(3) > 0 {
		step(t, x, m, from, -1)
	}
}

// P8.2, P8.3 by their words: Adds of all kinds to graphs at random.
func TestManyAdds(t *testing.T) {
	r := rand.New(rand.NewSource(84))
	amounts := []int{0, 1, 1, 1, -1, -1, -1, 2, -2, 3, -4, most, -most, most - 1, 2 * most, -2 * most, most + 1, math.MaxInt, math.MinInt}
	part := func() int {
		if r.Intn(12) == 0 {
			return ends[r.Intn(len(ends))]
		}
		return r.Intn(4)
	}
	graphs := 0
	for range 400 {
		g := graphOf(1 + r.Intn(mostNodes))
		for range r.Intn(12) {
			g.Edges = append(g.Edges, edge(r.Intn(g.Nodes), r.Intn(g.Nodes), []int{0, 0, 1, 2, mostPart}[r.Intn(5)], r.Intn(3)))
		}
		if _, err := graph.Closure(g); err != 0 {
			continue
		}
		graphs++
		x, m := newTrack(t, g)
		for range 40 {
			p, n := at(r.Intn(g.Nodes+2)-1, part(), part()), amounts[r.Intn(len(amounts))]
			if got, want := x.Add(p, n), m.wantAdd(p, n); got != want {
				t.Errorf("%v: Add(%v, %d): got %d, want %d", g, p, n, got, want)
			}
			check(t, "many", x, m)
		}
	}
	if graphs < 50 {
		t.Errorf("only %d graphs", graphs)
	}
}

// R4: the order of Adds is irrelevant, and a result does not depend on how a map is gone through, nor on how often it is asked for.
func TestResultsRepeat(t *testing.T) {
	g := graphOf(3, edge(0, 1, 0, 0), edge(1, 2, 1, 0), edge(1, 2, 0, 1), edge(2, 0, 2, 2))
	var adds []add
	for i := range 120 {
		adds = append(adds, add{at(i%3, i, 120-i), i%5 - 1})
	}
	one, _ := trackOf(t, g, adds...)
	slices.Reverse(adds)
	other, _ := trackOf(t, g, adds...)
	for node := range 3 {
		counts, front := one.At(node), one.Frontier(node)
		for range 10 {
			for _, x := range []*Track{one, other} {
				if !slices.Equal(x.At(node), counts) || !slices.Equal(x.Frontier(node), front) {
					t.Fatalf("node %d: another result for the same counts", node)
				}
			}
		}
	}
}

// P8.1, R3: two tracks of one graph share nothing.
func TestTracksAreApart(t *testing.T) {
	g := loop()
	one, m := trackOf(t, g, add{at(0, 1, 1), 3}, add{at(1, 2, 0), -1})
	other, n := newTrack(t, g)
	isEmpty(t, "the other one", other, 2)
	for _, a := range []add{{at(0, 1, 1), -3}, {at(1, 2, 0), 2}, {at(1, 0, 0), 1}} {
		if got, want := other.Add(a.p, a.n), n.wantAdd(a.p, a.n); got != want {
			t.Errorf("Add(%v, %d): got %d", a.p, a.n, got)
		}
		check(t, "the one", one, m)
		check(t, "the other one", other, n)
	}
	one.Add(at(0, 1, 1), -3)
	one.Add(at(1, 2, 0), 1)
	isEmpty(t, "the one, emptied", one, 2)
	check(t, "the other one", other, n)
}

// R2, R3: the graph that was handed in is not changed, nor kept: it may be changed after the call. No edges may be nil or empty.
func TestGraphStaysAsItIs(t *testing.T) {
	for _, before := range append(cyclic(), graphOf(9, edge(0, 1, 0, 0)), graphOf(1, edge(0, 0, 0, 0)), doubled(8, 7)) {
		edges := append(slices.Clone(before.Edges), edge(-7, 77, 7, 7))
		g := api.Graph{Nodes: before.Nodes, Edges: edges[:len(before.Edges)]}
		x, err := New(g)
		if !slices.Equal(g.Edges, before.Edges) || edges[len(edges)-1] != edge(-7, 77, 7, 7) {
			t.Errorf("%v was changed to %v", before, edges)
		}
		if err != 0 {
			continue
		}
		m := plain{before, map[api.Point]int{}}
		step(t, x, m, at(0, 2, 1), 1)
		for i := range edges {
			edges[i] = edge(0, 0, i, 0)
		}
		check(t, "the graph is another one", x, m)
		step(t, x, m, at(before.Nodes-1, 0, 3), 1)
		step(t, x, m, at(0, 2, 1), -1)
		check(t, "the graph is another one", x, m)
	}
	for _, edges := range [][]api.Edge{nil, {}} {
		x, m := newTrack(t, api.Graph{Nodes: 2, Edges: edges})
		step(t, x, m, at(1, 0, 0), 1)
		check(t, "no edges", x, m)
	}
}

// spoil overwrites a list, up to the end of its memory.
func spoil[E any](l []E, by E) {
	l = l[:cap(l)]
	for i := range l {
		l[i] = by
	}
}

// R3: what a caller writes into a result, or behind its end, reaches neither the track nor another result.
func TestResultsAreTheCallersOwn(t *testing.T) {
	for _, g := range append(cyclic(), doubled(5, 4)) {
		x, m := newTrack(t, g)
		for i := range 6 {
			step(t, x, m, at(i%g.Nodes, i, 6-i), 2*i%5-1)
			for node, want := range m.wantFrontiers() {
				counts, again := x.At(node), x.At(node)
				front, frontAgain := x.Frontier(node), x.Frontier(node)
				spoil(counts, count(-77, -77, -77))
				spoil(front, st(-77, -77))
				if !slices.Equal(again, m.wantAt(node)) || !slices.Equal(frontAgain, want) {
					t.Errorf("%v: other results became %v and %v", g, again, frontAgain)
				}
			}
			check(t, "spoilt", x, m)
		}
	}
}

// R3: a result stays as it was, whatever is done to the track.
func TestResultsStay(t *testing.T) {
	x, m := trackOf(t, loop(), add{at(0, 0, 3), 1}, add{at(0, 1, 2), 2})
	counts, front := x.At(0), x.Frontier(1)
	for _, a := range []add{{at(0, 0, 3), -1}, {at(0, 0, 0), 9}, {at(1, 0, 0), 1}, {at(0, 1, 2), -3}, {at(0, 0, 0), -9}} {
		step(t, x, m, a.p, a.n)
		check(t, "other counts", x, m)
	}
	if !slices.Equal(counts, []api.Count{count(0, 3, 1), count(1, 2, 2)}) || !slices.Equal(front, []api.Stamp{st(0, 3), st(1, 2)}) {
		t.Errorf("became %v and %v", counts, front)
	}
}

// P8.2 to P8.4: asking changes nothing, and keeps nothing.
func TestAskingChangesNothing(t *testing.T) {
	x, m := trackOf(t, loop(), add{at(0, 2, 1), 1}, add{at(1, 1, 2), -1})
	for range 3 {
		for _, epoch := range ends {
			for _, node := range []int{-1, 0, 1, 2, math.MinInt, math.MaxInt} {
				x.Passed(at(node, epoch, 1))
				x.Passed(at(node, 1, epoch))
				x.Frontier(node)
				x.At(node)
			}
		}
		check(t, "asked", x, m)
	}
	x.Add(at(0, 2, 1), -1)
	x.Add(at(1, 1, 2), 1)
	isEmpty(t, "emptied", x, 2)
}

// P0, P8.1 to P8.3: any graph and any calls at all; four bytes are an edge or a call: two nodes and two parts, or a point and how often.
func FuzzTrack(f *testing.F) {
	f.Add(2, []byte{0, 1, 0, 0, 1, 0, 0, 1}, []byte{0, 1, 0, 1, 1, 0, 1, 255, 0, 1, 0, 255})
	f.Add(3, []byte{0, 1, 0, 0, 1, 1, 0, 1, 1, 2, 0, 0}, []byte{0, 1, 0, 1, 1, 0, 2, 2, 3, 0, 0, 1, 255, 0, 0, 1})
	f.Add(0, []byte{}, []byte{})
	f.Add(9, []byte{0, 0, 0, 1}, []byte{0, 0, 0, 1})
	f.Add(1, []byte{0, 0, 241, 0}, []byte{0, 248, 0, 100, 0, 248, 0, 101, 0, 0, 248, 107, 0, 0, 0, 103})
	part := func(n byte) int {
		if n < 240 {
			return int(n % 6)
		}
		return ends[int(n-240)%len(ends)]
	}
	amount := func(n byte) int {
		far := []int{most, -most, most - 1, 1 - most, math.MaxInt, math.MinInt, 2 * most, -2 * most}
		if n >= 100 && n < 108 {
			return far[n-100]
		}
		return int(int8(n))
	}
	f.Fuzz(func(t *testing.T, nodes int, edges, calls []byte) {
		g := graphOf(nodes)
		for ; len(edges) >= 4; edges = edges[4:] {
			g.Edges = append(g.Edges, edge(int(int8(edges[0])), int(int8(edges[1])), part(edges[2]), part(edges[3])))
		}
		x, err := New(g)
		if _, want := graph.Closure(g); err != want || (x == nil) != (want != 0) {
			t.Fatalf("New(%v): got %v %d, want %d", g, x, err, want)
		}
		m := plain{g, map[api.Point]int{}}
		for ; len(calls) >= 4 && err == 0; calls = calls[4:] {
			p, n := at(int(int8(calls[0])), part(calls[1]), part(calls[2])), amount(calls[3])
			if got, want := x.Add(p, n), m.wantAdd(p, n); got != want {
				t.Errorf("%v: Add(%v, %d): got %d, want %d", g, p, n, got, want)
			}
			check(t, "behind a call", x, m)
		}
	})
}
