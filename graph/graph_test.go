package graph

import (
	"math"
	"math/rand"
	"slices"
	"testing"

	"garboard/api"
)

// The limits, by their numbers, so that no test leans on the constants.
const (
	mostNodes = 8
	mostEdges = 16
	mostPart  = 1000000
	longest   = 64
)

func by(epoch, round int) api.Path { return api.Path{Epoch: epoch, Round: round} }

func edge(from, to, epoch, round int) api.Edge {
	return api.Edge{From: from, To: to, Path: by(epoch, round)}
}

func graphOf(nodes int, edges ...api.Edge) api.Graph {
	return api.Graph{Nodes: nodes, Edges: edges}
}

// valid, lessEq and ahead are in the document's words, so that no test leans on package path.
func valid(p api.Path) bool {
	return p.Epoch >= 0 && p.Epoch <= mostPart && p.Round >= 0 && p.Round <= mostPart
}

func lessEq(p, q api.Path) bool { return p.Epoch <= q.Epoch && p.Round <= q.Round }

func ahead(p, q api.Path) bool {
	return p.Epoch < q.Epoch || p.Epoch == q.Epoch && p.Round < q.Round
}

func plus(p, q api.Path) api.Path { return by(p.Epoch+q.Epoch, p.Round+q.Round) }

func covers(l []api.Path, p api.Path) bool {
	return slices.ContainsFunc(l, func(q api.Path) bool { return lessEq(q, p) })
}

// wantMin holds each path against all others, and puts it at its place.
func wantMin(l []api.Path) []api.Path {
	var least []api.Path
	for _, p := range l {
		if slices.ContainsFunc(l, func(q api.Path) bool { return q != p && lessEq(q, p) }) {
			continue
		}
		i := 0
		for i < len(least) && ahead(least[i], p) {
			i++
		}
		if i == len(least) || least[i] != p {
			least = slices.Insert(least, i, p)
		}
	}
	return least
}

// zeroLoop looks from each node along zero edges until there is nothing new: P6.1 by the words of a zero loop.
func zeroLoop(g api.Graph) bool {
	for from := range g.Nodes {
		come := make([]bool, g.Nodes)
		for again := true; again; {
			again = false
			for _, e := range g.Edges {
				if e.Path == by(0, 0) && (e.From == from || come[e.From]) && !come[e.To] {
					come[e.To], again = true, true
				}
			}
		}
		if come[from] {
			return true
		}
	}
	return false
}

// wantCheck is Check by the words of P6.1.
func wantCheck(g api.Graph) (api.Errno, int) {
	if g.Nodes < 1 || g.Nodes > mostNodes || len(g.Edges) > mostEdges {
		return api.ErrGraph, -1
	}
	for i, e := range g.Edges {
		if e.From < 0 || e.From >= g.Nodes || e.To < 0 || e.To >= g.Nodes || !valid(e.Path) {
			return api.ErrGraph, i
		}
	}
	if zeroLoop(g) {
		return api.ErrLoop, -1
	}
	return api.OK, -1
}

// end is where a walk ends, and its summary.
type end struct {
	node int
	sum  api.Path
}

// walks are the ends of all walks from a node, those that pass a node more than once among them, of at most n edges.
func walks(g api.Graph, from, n int) [][]api.Path {
	found := make([][]api.Path, g.Nodes)
	seen := map[end]bool{{node: from}: true}
	for level := []end{{node: from}}; len(level) > 0 && n >= 0; n-- {
		var next []end
		for _, w := range level {
			found[w.node] = append(found[w.node], w.sum)
			for _, e := range g.Edges {
				if to := (end{e.To, plus(w.sum, e.Path)}); e.From == w.node && valid(to.sum) && !seen[to] {
					seen[to] = true
					next = append(next, to)
				}
			}
		}
		level = next
	}
	return found
}

// wantClosure is Closure by the words of P6.2, of walks of at most n edges.
func wantClosure(g api.Graph, n int) ([][][]api.Path, api.Errno) {
	if err, _ := wantCheck(g); err != api.OK {
		return nil, err
	}
	var closure [][][]api.Path
	for from := range g.Nodes {
		var row [][]api.Path
		for _, l := range walks(g, from, n) {
			l = wantMin(l)
			if len(l) > longest {
				return nil, api.ErrFull
			}
			row = append(row, l)
		}
		closure = append(closure, row)
	}
	return closure, api.OK
}

// wantOrder is Order by the words of P6.3.
func wantOrder(g api.Graph) []int {
	if err, _ := wantCheck(g); err != api.OK {
		return nil
	}
	left := make([]bool, g.Nodes)
	for i := range left {
		left[i] = true
	}
	var order []int
	for range g.Nodes {
		blocked := make([]bool, g.Nodes)
		for _, e := range g.Edges {
			if e.Path == by(0, 0) && left[e.From] {
				blocked[e.To] = true
			}
		}
		for node := range g.Nodes {
			if left[node] && !blocked[node] {
				left[node] = false
				order = append(order, node)
				break
			}
		}
	}
	return order
}

func sameClosure(a, b [][][]api.Path) bool {
	return slices.EqualFunc(a, b, func(r, s [][]api.Path) bool {
		return slices.EqualFunc(r, s, slices.Equal)
	})
}

// checkCheck holds Check of g against the words of P6.1.
func checkCheck(t *testing.T, g api.Graph) {
	t.Helper()
	err, at := Check(g)
	if want, wantAt := wantCheck(g); err != want || at != wantAt {
		t.Errorf("Check(%v): got %d %d, want %d %d", g, err, at, want, wantAt)
	}
}

// checkClosure holds Closure of g against the words of P6.2, of walks of at most n edges.
func checkClosure(t *testing.T, g api.Graph, n int) {
	t.Helper()
	got, err := Closure(g)
	if want, wantErr := wantClosure(g, n); !sameClosure(got, want) || err != wantErr {
		t.Errorf("Closure(%v): got %v %d, want %v %d", g, got, err, want, wantErr)
	}
}

// checkOrder holds Order of g against the words of P6.3.
func checkOrder(t *testing.T, g api.Graph) {
	t.Helper()
	if got, want := Order(g), wantOrder(g); !slices.Equal(got, want) {
		t.Errorf("Order(%v): got %v, want %v", g, got, want)
	}
}

// checkAll holds all calls of g against their words.
func checkAll(t *testing.T, g api.Graph) {
	t.Helper()
	checkCheck(t, g)
	checkClosure(t, g, mostNodes+2)
	checkOrder(t, g)
}

// refused reports whether Closure and Order give nothing of g but this error.
func refused(g api.Graph, want api.Errno) bool {
	c, err := Closure(g)
	return c == nil && err == want && len(Order(g)) == 0
}

// hop are edges from one node to another one with n incomparable paths, apart by step in both parts.
func hop(from, to, n, step int) []api.Edge {
	var edges []api.Edge
	for i := range n {
		edges = append(edges, edge(from, to, step*i, step*(n-1-i)))
	}
	return edges
}

// chain leads from node 0 to node hops by n edges for each hop, with n to the power of hops sums, apart by step in both parts.
func chain(hops, n, step int) []api.Edge {
	var edges []api.Edge
	for i := range hops {
		edges = append(edges, hop(i, i+1, n, step)...)
		step *= n
	}
	return edges
}

// falling is n paths no two of which are comparable, in increasing order, apart by step in both parts.
func falling(n, step int) []api.Path {
	var list []api.Path
	for i := range n {
		list = append(list, by(step*i, step*(n-1-i)))
	}
	return list
}

// turned is g with its edges in another order.
func turned(r *rand.Rand, g api.Graph) api.Graph {
	g.Edges = slices.Clone(g.Edges)
	r.Shuffle(len(g.Edges), func(i, j int) { g.Edges[i], g.Edges[j] = g.Edges[j], g.Edges[i] })
	return g
}

// randomGraph has up to n nodes and up to m edges, the parts of whose paths are some of parts.
func randomGraph(r *rand.Rand, n, m int, parts []int) api.Graph {
	g := graphOf(1 + r.Intn(n))
	for range r.Intn(m + 1) {
		g.Edges = append(g.Edges, edge(r.Intn(g.Nodes), r.Intn(g.Nodes), parts[r.Intn(len(parts))], parts[r.Intn(len(parts))]))
	}
	return g
}

// cycle leads from each of n nodes to the next one, and back from the last one.
func cycle(n int, p api.Path) api.Graph {
	g := graphOf(n)
	for i := range n {
		g.Edges = append(g.Edges, api.Edge{From: i, To: (i + 1) % n, Path: p})
	}
	return g
}

// The chapter's examples.
func TestExamples(t *testing.T) {
	g := graphOf(2, edge(0, 1, 0, 0), edge(1, 0, 0, 1))
	if err, at := Check(g); err != 0 || at != -1 {
		t.Errorf("Check: got %d %d", err, at)
	}
	c, err := Closure(g)
	want := [][][]api.Path{{{by(0, 0)}, {by(0, 0)}}, {{by(0, 1)}, {by(0, 0)}}}
	if !sameClosure(c, want) || err != 0 {
		t.Errorf("Closure: got %v %d", c, err)
	}
	if got := Order(g); !slices.Equal(got, []int{0, 1}) {
		t.Errorf("Order: got %v", got)
	}
	loop := graphOf(2, edge(0, 1, 0, 0), edge(1, 0, 0, 0))
	if err, at := Check(loop); err != 5 || at != -1 {
		t.Errorf("Check of a zero loop: got %d %d", err, at)
	}
	if !refused(loop, 5) {
		t.Error("Closure or Order of a zero loop is not refused")
	}
}

// P6.1: 1 to 8 nodes and up to 16 edges.
func TestCheckNumbers(t *testing.T) {
	for _, n := range []int{math.MinInt, -8, -1, 0, 9, 10, 1000000, math.MaxInt} {
		for _, g := range []api.Graph{graphOf(n), graphOf(n, edge(0, 0, 0, 1)), graphOf(n, edge(-1, n, -1, 0)), graphOf(n, edge(0, 0, 0, 0))} {
			if err, at := Check(g); err != 4 || at != -1 || !refused(g, 4) {
				t.Errorf("%v: got %d %d", g, err, at)
			}
		}
	}
	for n := 1; n <= mostNodes; n++ {
		for _, edges := range [][]api.Edge{nil, {}, {edge(n-1, 0, 0, 1)}, slices.Repeat([]api.Edge{edge(0, n-1, 1, 0)}, 15), slices.Repeat([]api.Edge{edge(0, n-1, 1, 0)}, 16)} {
			g := graphOf(n, edges...)
			if err, at := Check(g); err != 0 || at != -1 {
				t.Errorf("%v: got %d %d", g, err, at)
			}
		}
	}
	for _, e := range []api.Edge{edge(0, 1, 1, 0), edge(0, 1, 0, 0), edge(0, 0, 0, 0), edge(-1, 0, 0, 0), edge(0, 2, 0, 0), edge(0, 0, -1, 0)} {
		for _, n := range []int{17, 18, 1000} {
			g := graphOf(2, slices.Repeat([]api.Edge{e}, n)...)
			if err, at := Check(g); err != 4 || at != -1 || !refused(g, 4) {
				t.Errorf("%d edges %v: got %d %d", n, e, err, at)
			}
		}
	}
}

// P6.1: the first edge that is not valid, whatever is behind it.
func TestCheckEdges(t *testing.T) {
	for _, n := range []int{1, 2, 8} {
		wrong := []api.Edge{
			edge(-1, 0, 0, 1), edge(0, -1, 0, 1), edge(n, 0, 0, 1), edge(0, n, 0, 1),
			edge(-1, -1, 0, 1), edge(n, n, 0, 1), edge(-1, n, -1, -1), edge(8, 0, 0, 1),
			edge(math.MinInt, 0, 0, 1), edge(0, math.MaxInt, 0, 1),
			edge(0, 0, -1, 0), edge(0, 0, 0, -1), edge(0, 0, -1, 1),
			edge(0, 0, mostPart+1, 0), edge(0, 0, 0, mostPart+1),
			edge(0, 0, math.MinInt, 1), edge(0, 0, 1, math.MaxInt),
		}
		for _, e := range wrong {
			for _, at := range []int{0, 1, 7, 14, 15} {
				g := graphOf(n, slices.Repeat([]api.Edge{edge(0, n-1, mostPart, mostPart)}, 16)...)
				g.Edges[at] = e
				if err, got := Check(g); err != 4 || got != at || !refused(g, 4) {
					t.Errorf("%d nodes, edge %d is %v: got %d %d", n, at, e, err, got)
				}
				for i := at; i < len(g.Edges); i++ {
					g.Edges[i] = wrong[(i-at)%len(wrong)]
				}
				g.Edges[at] = e
				if err, got := Check(g); err != 4 || got != at {
					t.Errorf("%d nodes, edge %d is the first wrong one, %v: got %d %d", n, at, e, err, got)
				}
			}
		}
	}
}

// P6.1: an edge that is not valid is told ahead of a zero loop, wherever it is.
func TestCheckEdgeAheadOfLoop(t *testing.T) {
	for _, loop := range [][]api.Edge{{edge(0, 0, 0, 0)}, {edge(0, 1, 0, 0), edge(1, 0, 0, 0)}} {
		for at := range len(loop) + 1 {
			g := graphOf(2, slices.Insert(slices.Clone(loop), at, edge(0, 2, 0, 0))...)
			if err, got := Check(g); err != 4 || got != at || !refused(g, 4) {
				t.Errorf("%v: got %d %d", g, err, got)
			}
		}
	}
}

// P6.1: zero loops of one to eight edges, by themselves and beside other edges.
func TestCheckZeroLoops(t *testing.T) {
	r := rand.New(rand.NewSource(61))
	for n := 1; n <= mostNodes; n++ {
		g := cycle(n, by(0, 0))
		for range 20 {
			if err, at := Check(g); err != 5 || at != -1 || !refused(g, 5) {
				t.Errorf("a zero loop of %d edges, %v: got %d %d", n, g, err, at)
			}
			g = turned(r, g)
		}
		g = cycle(n, by(0, 0))
		for i := range n {
			g.Edges = append(g.Edges, edge(i, n-1-i, 0, 1))
		}
		if err, at := Check(g); err != 5 || at != -1 || !refused(g, 5) {
			t.Errorf("a zero loop of %d edges beside others: got %d %d", n, err, at)
		}
		// Nodes that are on no loop, ahead of it and behind it.
		g = cycle(n, by(0, 0))
		if n <= mostNodes-2 {
			g.Nodes = n + 2
			g.Edges = append(g.Edges, edge(n, 0, 0, 0), edge(n-1, n+1, 0, 0))
		}
		if err, at := Check(g); err != 5 || at != -1 || !refused(g, 5) {
			t.Errorf("a zero loop of %d edges among other nodes: got %d %d", n, err, at)
		}
	}
}

// P6.1: loops of which one path is not zero are permitted, and zero paths that are no loop.
func TestCheckOtherLoops(t *testing.T) {
	for n := 1; n <= mostNodes; n++ {
		for at := range n {
			for _, p := range []api.Path{by(0, 1), by(1, 0), by(mostPart, mostPart)} {
				g := cycle(n, by(0, 0))
				g.Edges[at].Path = p
				if err, got := Check(g); err != 0 || got != -1 {
					t.Errorf("a loop of %d edges, %v: got %d %d", n, g, err, got)
				}
				checkAll(t, g)
			}
		}
	}
	zero := []api.Graph{
		graphOf(2, edge(0, 1, 0, 0), edge(0, 1, 0, 0)),
		graphOf(3, edge(0, 1, 0, 0), edge(0, 2, 0, 0), edge(1, 2, 0, 0)),
		graphOf(4, edge(3, 2, 0, 0), edge(3, 1, 0, 0), edge(2, 0, 0, 0), edge(1, 0, 0, 0), edge(0, 3, 0, 1)),
		graphOf(2, edge(0, 1, 0, 0), edge(1, 0, 0, 1), edge(1, 0, 1, 0)),
	}
	for _, g := range zero {
		if err, got := Check(g); err != 0 || got != -1 {
			t.Errorf("%v: got %d %d", g, err, got)
		}
		checkAll(t, g)
	}
	// One of two edges between the same nodes closes a zero loop.
	g := graphOf(2, edge(0, 1, 0, 0), edge(1, 0, 0, 1), edge(1, 0, 0, 0))
	if err, got := Check(g); err != 5 || got != -1 || !refused(g, 5) {
		t.Errorf("%v: got %d %d", g, err, got)
	}
}

// P6.2: closures that are written out.
func TestClosure(t *testing.T) {
	zero := []api.Path{by(0, 0)}
	cases := []struct {
		name string
		g    api.Graph
		want [][][]api.Path
	}{
		{"one node", graphOf(1), [][][]api.Path{{zero}}},
		{"one node with a loop", graphOf(1, edge(0, 0, 0, 1)), [][][]api.Path{{zero}}},
		{"two nodes without edges", graphOf(2), [][][]api.Path{{zero, nil}, {nil, zero}}},
		{"one edge", graphOf(2, edge(1, 0, 2, 3)), [][][]api.Path{{zero, nil}, {{by(2, 3)}, zero}}},
		{"edges between the same nodes", graphOf(2, edge(0, 1, 2, 0), edge(0, 1, 1, 1), edge(0, 1, 2, 1), edge(0, 1, 0, 2), edge(0, 1, 1, 1)), [][][]api.Path{{zero, {by(0, 2), by(1, 1), by(2, 0)}}, {nil, zero}}},
		{"edges of which one covers all", graphOf(2, edge(0, 1, 2, 0), edge(0, 1, 1, 1), edge(0, 1, 0, 0), edge(0, 1, 0, 2)), [][][]api.Path{{zero, zero}, {nil, zero}}},
		{"a loop on the way", graphOf(3, edge(0, 1, 0, 1), edge(1, 1, 1, 0), edge(1, 2, 0, 2)), [][][]api.Path{{zero, {by(0, 1)}, {by(0, 3)}}, {nil, zero, {by(0, 2)}}, {nil, nil, zero}}},
		{"two ways", graphOf(4, edge(0, 1, 1, 0), edge(1, 3, 0, 0), edge(0, 2, 0, 1), edge(2, 3, 0, 0)), [][][]api.Path{{zero, {by(1, 0)}, {by(0, 1)}, {by(0, 1), by(1, 0)}}, {nil, zero, nil, zero}, {nil, nil, zero, zero}, {nil, nil, nil, zero}}},
		{"the longer way is the lesser one", graphOf(3, edge(0, 2, 0, 5), edge(0, 1, 0, 1), edge(1, 2, 0, 2)), [][][]api.Path{{zero, {by(0, 1)}, {by(0, 3)}}, {nil, zero, {by(0, 2)}}, {nil, nil, zero}}},
		{"apart", graphOf(3, edge(0, 0, 1, 1), edge(2, 1, 0, 0)), [][][]api.Path{{zero, nil, nil}, {nil, zero, nil}, {nil, zero, zero}}},
	}
	r := rand.New(rand.NewSource(62))
	for _, c := range cases {
		for range 10 {
			if got, err := Closure(c.g); !sameClosure(got, c.want) || err != 0 {
				t.Errorf("%s: Closure(%v): got %v %d, want %v", c.name, c.g, got, err, c.want)
			}
			c.g = turned(r, c.g)
		}
	}
}

// P6.2: walks along all eight nodes, with the edges in any order.
func TestClosureOfLongWalks(t *testing.T) {
	r := rand.New(rand.NewSource(63))
	for range 50 {
		g := cycle(mostNodes, by(1, 2))
		g = turned(r, g)
		c, err := Closure(g)
		if len(c) != mostNodes || err != 0 {
			t.Fatalf("Closure(%v): got %v %d", g, c, err)
		}
		for i, row := range c {
			if len(row) != mostNodes {
				t.Fatalf("Closure(%v): got %v at %d", g, row, i)
			}
			for j, l := range row {
				n := (j - i + mostNodes) % mostNodes
				if !slices.Equal(l, []api.Path{by(n, 2*n)}) {
					t.Errorf("Closure(%v): got %v at %d %d", g, l, i, j)
				}
			}
		}
	}
}

// P6.2: a walk whose sum is just within the limit counts, and one just beyond it doesn't.
func TestClosureNearTheLimit(t *testing.T) {
	cases := []struct {
		name  string
		edges []api.Edge
		want  []api.Path
	}{
		{"the greatest path", []api.Edge{edge(0, 3, mostPart, mostPart)}, []api.Path{by(mostPart, mostPart)}},
		{"epoch within", []api.Edge{edge(0, 1, 999999, 0), edge(1, 3, 1, 0)}, []api.Path{by(mostPart, 0)}},
		{"epoch beyond", []api.Edge{edge(0, 1, 999999, 0), edge(1, 3, 2, 0)}, nil},
		{"round within", []api.Edge{edge(0, 1, 0, 999999), edge(1, 3, 0, 1)}, []api.Path{by(0, mostPart)}},
		{"round beyond", []api.Edge{edge(0, 1, 0, 999999), edge(1, 3, 0, 2)}, nil},
		{"three edges within", []api.Edge{edge(0, 1, 333333, 1), edge(1, 2, 333333, 1), edge(2, 3, 333334, 1)}, []api.Path{by(mostPart, 3)}},
		{"three edges beyond", []api.Edge{edge(0, 1, 333333, 1), edge(1, 2, 333334, 1), edge(2, 3, 333334, 1)}, nil},
		{"beyond, but another walk within", []api.Edge{edge(0, 1, mostPart, 0), edge(1, 3, 1, 0), edge(0, 2, 0, mostPart), edge(2, 3, 5, 0)}, []api.Path{by(5, mostPart)}},
		{"one of two edges within", []api.Edge{edge(0, 1, mostPart, 0), edge(1, 3, 1, 0), edge(1, 3, 0, 7)}, []api.Path{by(mostPart, 7)}},
		{"a loop on the way is beyond", []api.Edge{edge(0, 1, mostPart, 0), edge(1, 1, 1, 0), edge(1, 3, 0, 1)}, []api.Path{by(mostPart, 1)}},
		{"both beyond", []api.Edge{edge(0, 1, mostPart, mostPart), edge(1, 3, 1, 1)}, nil},
	}
	for _, c := range cases {
		for _, backward := range []bool{false, true} {
			g := graphOf(4, slices.Clone(c.edges)...)
			if backward {
				slices.Reverse(g.Edges)
			}
			got, err := Closure(g)
			if err != 0 || len(got) != 4 || !slices.Equal(got[0][3], c.want) {
				t.Errorf("%s: Closure(%v): got %v %d, want %v from 0 to 3", c.name, g, got, err, c.want)
			}
			checkClosure(t, g, mostNodes)
		}
	}
}

// P6.2: 64 paths between two nodes are given, 65 and more are not, wherever they are and in whatever order the edges are.
func TestClosureOf64And65(t *testing.T) {
	with := func(edges []api.Edge, more ...api.Edge) []api.Edge { return append(slices.Clone(edges), more...) }
	six, three := chain(6, 2, 1), chain(4, 3, 1)
	cases := []struct {
		name  string
		edges []api.Edge
		to, n int // 65 stands for any number that is too great
	}{
		{"64 sums", six, 6, 64},
		{"64 sums of three hops", chain(3, 4, 1), 3, 64},
		{"63 sums", slices.Concat(hop(0, 1, 9, 7), hop(1, 2, 7, 1)), 2, 63},
		{"64 sums of two hops", chain(2, 8, 1), 2, 64},
		{"66 sums", slices.Concat(hop(0, 1, 2, 33), hop(1, 2, 3, 11), hop(2, 3, 11, 1)), 3, 65},
		{"81 sums", three, 4, 65},
		{"128 sums", chain(7, 2, 1), 7, 65},
		{"64 sums, and one of them again", with(chain(6, 2, 2), edge(0, 6, 2, 124)), 6, 64},
		{"64 sums, and one more", with(chain(6, 2, 2), edge(0, 6, 3, 123)), 6, 65},
		{"64 sums, and one that is greater", with(chain(6, 2, 2), edge(0, 6, 3, 124)), 6, 64},
		{"64 sums, and one that is less than one", with(chain(6, 2, 2), edge(0, 6, 2, 123)), 6, 64},
		{"64 sums, and one that is less than two", with(chain(6, 2, 2), edge(0, 6, 2, 122)), 6, 63},
		{"128 sums, all covered by zero", with(chain(7, 2, 1), edge(0, 7, 0, 0)), 7, 1},
		{"81 sums, 18 covered by one", with(three, edge(0, 4, 10, 53)), 4, 64},
		{"81 sums, 17 covered by one", with(three, edge(0, 4, 10, 54)), 4, 65},
		{"81 sums, all covered by a walk as long", with(three, edge(0, 5, 0, 0), edge(5, 6, 0, 0), edge(6, 7, 0, 0), edge(7, 4, 0, 0)), 4, 1},
		{"81 sums, 18 covered by a walk as long", with(three, edge(0, 5, 10, 0), edge(5, 6, 0, 0), edge(6, 7, 0, 0), edge(7, 4, 0, 53)), 4, 64},
		{"81 sums, 17 covered by a walk as long", with(three, edge(0, 5, 10, 0), edge(5, 6, 0, 0), edge(6, 7, 0, 0), edge(7, 4, 0, 54)), 4, 65},
	}
	r := rand.New(rand.NewSource(64))
	for _, c := range cases {
		g := graphOf(mostNodes, c.edges...)
		for range 6 {
			got, err := Closure(g)
			if c.n > longest && (got != nil || err != 10) {
				t.Errorf("%s: Closure(%v): got %v %d, want ErrFull", c.name, g, got, err)
			}
			if c.n <= longest && (len(got) != mostNodes || err != 0 || len(got[0][c.to]) != c.n) {
				t.Errorf("%s: Closure(%v): got %v %d, want %d paths", c.name, g, got, err, c.n)
			}
			if order := Order(g); len(order) != mostNodes {
				t.Errorf("%s: Order(%v): got %v", c.name, g, order)
			}
			checkClosure(t, g, mostNodes)
			g = turned(r, g)
		}
	}
	c, err := Closure(graphOf(7, chain(6, 2, 1)...))
	if len(c) != 7 || err != 0 || !slices.Equal(c[0][6], falling(64, 1)) {
		t.Errorf("64 sums: got %v %d", c, err)
	}
}

// P6.2: 80 sums come up on the way at a node in the middle, and are covered only once a walk along all nodes is found.
func TestClosureOverfullInTheMiddle(t *testing.T) {
	g := graphOf(5, slices.Concat(hop(0, 1, 5, 16), hop(1, 2, 4, 4), hop(2, 3, 4, 1), []api.Edge{edge(3, 4, 0, 0)})...)
	slices.Reverse(g.Edges)
	// From 0 to 1 by 4 is less than three of the five edges from 0 to 1.
	g.Edges = append(g.Edges, edge(4, 1, 0, 0), edge(0, 4, 32, 0))
	r := rand.New(rand.NewSource(70))
	for range 200 {
		c, err := Closure(g)
		if len(c) != 5 || err != 0 || len(c[0][1]) != 3 || len(c[0][3]) != 48 || len(c[0][4]) != 33 {
			t.Fatalf("Closure(%v): got %v %d", g, c, err)
		}
		checkClosure(t, g, mostNodes)
		g = turned(r, g)
	}
}

// P6.2: of 81 sums, those beyond the limit do not count towards the 64.
func TestClosureOf81NearTheLimit(t *testing.T) {
	for _, c := range []struct{ beyond, n int }{{0, 65}, {16, 65}, {17, 64}, {18, 63}, {26, 55}} {
		g := graphOf(5, slices.Concat(hop(0, 1, 3, 27), hop(1, 2, 3, 9), hop(2, 3, 3, 3), hop(3, 4, 3, 1))...)
		for i := range 3 {
			g.Edges[i].Path.Epoch += mostPart - 80 + c.beyond
		}
		got, err := Closure(g)
		if c.n > longest && (got != nil || err != 10) || c.n <= longest && (len(got) != 5 || err != 0 || len(got[0][4]) != c.n) {
			t.Errorf("%d sums beyond the limit: got %v %d, want %d paths", c.beyond, got, err, c.n)
		}
	}
}

// P6.2: too many paths anywhere, not from the first node nor to the last one alone.
func TestClosureFullAnywhere(t *testing.T) {
	for shift := range mostNodes {
		g := graphOf(mostNodes, chain(4, 3, 1)...)
		for i := range g.Edges {
			g.Edges[i].From = (g.Edges[i].From + shift) % mostNodes
			g.Edges[i].To = (g.Edges[i].To + shift) % mostNodes
		}
		if c, err := Closure(g); c != nil || err != 10 {
			t.Errorf("from %d: got %v %d", shift, c, err)
		}
		if order := Order(g); len(order) != mostNodes {
			t.Errorf("from %d: Order: got %v", shift, order)
		}
	}
	// An error of Check is told ahead of it.
	loop := graphOf(mostNodes, append(chain(4, 3, 1), edge(7, 7, 0, 0))...)
	wrong := graphOf(mostNodes, append(chain(4, 3, 1), edge(7, 8, 0, 0))...)
	if !refused(loop, 5) || !refused(wrong, 4) {
		t.Error("ErrFull is told ahead of an error of Check")
	}
}

// P6.3: orders that are written out.
func TestOrder(t *testing.T) {
	cases := []struct {
		name string
		g    api.Graph
		want []int
	}{
		{"one node", graphOf(1), []int{0}},
		{"one node with a loop", graphOf(1, edge(0, 0, 1, 0)), []int{0}},
		{"no edges", graphOf(8), []int{0, 1, 2, 3, 4, 5, 6, 7}},
		{"no zero paths", graphOf(3, edge(2, 1, 0, 1), edge(1, 0, 1, 0), edge(0, 2, 1, 1)), []int{0, 1, 2}},
		{"one edge back", graphOf(2, edge(1, 0, 0, 0)), []int{1, 0}},
		{"one edge back with a path", graphOf(2, edge(1, 0, 0, 1)), []int{0, 1}},
		{"only one of two edges is zero", graphOf(2, edge(1, 0, 0, 1), edge(1, 0, 0, 0)), []int{1, 0}},
		{"a way backward", graphOf(4, edge(3, 2, 0, 0), edge(2, 1, 0, 0), edge(1, 0, 0, 0)), []int{3, 2, 1, 0}},
		{"the least that may be next, a lesser one among them", graphOf(3, edge(1, 0, 0, 0)), []int{1, 0, 2}},
		{"a greater one ahead of the others", graphOf(4, edge(3, 0, 0, 0), edge(0, 1, 0, 0)), []int{2, 3, 0, 1}},
		{"two ahead of one", graphOf(4, edge(1, 0, 0, 0), edge(3, 0, 0, 0)), []int{1, 2, 3, 0}},
		{"zero edges forward", graphOf(3, edge(0, 1, 0, 0), edge(1, 2, 0, 0)), []int{0, 1, 2}},
		{"a loop that is open at one edge", graphOf(3, edge(0, 1, 0, 0), edge(1, 2, 0, 1), edge(2, 0, 0, 0)), []int{2, 0, 1}},
		{"two ways that meet", graphOf(4, edge(3, 2, 0, 0), edge(3, 1, 0, 0), edge(2, 0, 0, 0), edge(1, 0, 0, 0)), []int{3, 1, 2, 0}},
	}
	r := rand.New(rand.NewSource(65))
	for _, c := range cases {
		for range 10 {
			if got := Order(c.g); !slices.Equal(got, c.want) {
				t.Errorf("%s: Order(%v): got %v, want %v", c.name, c.g, got, c.want)
			}
			c.g = turned(r, c.g)
		}
	}
}

// P6.1 to P6.3 by their words, for all graphs of two nodes and up to three edges.
func TestSmallGraphsByTheirWords(t *testing.T) {
	var edges []api.Edge
	for _, from := range []int{0, 1} {
		for _, to := range []int{0, 1, 2} {
			for _, p := range []api.Path{by(0, 0), by(0, 1), by(1, 0), by(-1, 1)} {
				edges = append(edges, api.Edge{From: from, To: to, Path: p})
			}
		}
	}
	checkAll(t, graphOf(2))
	for _, a := range edges {
		checkAll(t, graphOf(2, a))
		for _, b := range edges {
			checkAll(t, graphOf(2, a, b))
			for _, c := range edges {
				checkAll(t, graphOf(2, a, b, c))
			}
		}
	}
}

// P6.1 to P6.3 by their words, for graphs at random, many with zero paths, some near the limit of a sum.
func TestRandomGraphsByTheirWords(t *testing.T) {
	r := rand.New(rand.NewSource(66))
	for range 1000 {
		checkAll(t, randomGraph(r, 8, 16, []int{0, 0, 1, 2, 3}))
		checkAll(t, randomGraph(r, 4, 8, []int{0, 0, 1, 500000, 999999, mostPart}))
		checkAll(t, randomGraph(r, 8, 10, []int{0, 0, 0, 0, 1}))
		g := randomGraph(r, 5, 9, []int{0, 1, 2, 3, 8})
		if len(g.Edges) > 0 && r.Intn(4) == 0 {
			e := &g.Edges[r.Intn(len(g.Edges))]
			*[]*int{&e.From, &e.To, &e.Path.Epoch, &e.Path.Round}[r.Intn(4)] = []int{-1, g.Nodes, mostPart + 1}[r.Intn(3)]
		}
		checkAll(t, g)
	}
}

// P6.4: from a node to itself there is only the zero path, and consecutive walks are covered.
func TestClosureIsClosed(t *testing.T) {
	r := rand.New(rand.NewSource(67))
	closures := 0
	for range 2000 {
		parts := [][]int{{0, 1, 2, 3}, {0, 1, 400000, 600000, mostPart}}[r.Intn(2)]
		g := randomGraph(r, 8, 16, parts)
		c, err := Closure(g)
		if err != api.OK {
			continue
		}
		closures++
		for i := range c {
			if !slices.Equal(c[i][i], []api.Path{by(0, 0)}) {
				t.Errorf("%v: got %v from %d to itself", g, c[i][i], i)
			}
			checkClosed(t, g, c, i)
		}
		for _, e := range g.Edges {
			if !covers(c[e.From][e.To], e.Path) {
				t.Errorf("%v: %v does not cover the edge %v", g, c[e.From][e.To], e)
			}
		}
	}
	if closures < 500 {
		t.Errorf("only %d closures", closures)
	}
}

// checkClosed holds the sums of what c has from i, and of what it has from there, against what it has of both.
func checkClosed(t *testing.T, g api.Graph, c [][][]api.Path, i int) {
	t.Helper()
	for j := range c {
		for k := range c {
			for _, p := range c[i][j] {
				for _, q := range c[j][k] {
					if sum := plus(p, q); valid(sum) && !covers(c[i][k], sum) {
						t.Errorf("%v: %v from %d to %d does not cover %v and %v", g, c[i][k], i, k, p, q)
					}
				}
			}
		}
	}
}

// P6.4: additional edges do not increase any path.
func TestMoreEdgesDoNotIncrease(t *testing.T) {
	r := rand.New(rand.NewSource(68))
	pairs := 0
	for range 3000 {
		parts := [][]int{{0, 1, 2, 3}, {0, 1, 400000, 600000, mostPart}}[r.Intn(2)]
		more := randomGraph(r, 8, 16, parts)
		less := more
		less.Edges = more.Edges[:r.Intn(len(more.Edges)+1)]
		before, err := Closure(less)
		after, moreErr := Closure(more)
		if err != api.OK || moreErr != api.OK {
			continue
		}
		pairs++
		for i := range before {
			for j := range before[i] {
				for _, p := range before[i][j] {
					if !covers(after[i][j], p) {
						t.Errorf("%v: %v from %d to %d, without some edges %v", more, after[i][j], i, j, before[i][j])
					}
				}
			}
		}
	}
	if pairs < 500 {
		t.Errorf("only %d pairs", pairs)
	}
}

// someGraphs are of each kind: valid ones, and those that are refused.
func someGraphs() []api.Graph {
	return []api.Graph{
		graphOf(0), graphOf(9, edge(0, 1, 0, 1)), graphOf(1), graphOf(8),
		graphOf(2, edge(0, 1, 0, 0), edge(1, 0, 0, 1)),
		graphOf(2, edge(0, 1, 0, 0), edge(1, 0, 0, 0)),
		graphOf(2, edge(0, 1, 0, 1), edge(1, 2, 0, 0)),
		graphOf(3, edge(2, 0, 1, 1), edge(2, 0, 2, 0), edge(0, 1, 0, 3), edge(0, 1, 0, 3), edge(1, 2, 1, 0)),
		cycle(8, by(1, 1)),
		graphOf(7, chain(6, 2, 1)...), graphOf(8, chain(7, 2, 1)...),
		graphOf(8, append(chain(7, 2, 1), edge(0, 7, 0, 0))...),
	}
}

// spare is g with an array of edges that goes on with one that no call may touch.
func spare(g api.Graph) api.Graph {
	whole := append(slices.Clone(g.Edges), edge(77, 77, 77, 77))
	g.Edges = whole[:len(g.Edges)]
	return g
}

// sameSpare reports whether g, made by spare, is still the same as before, with what goes on behind it.
func sameSpare(g, before api.Graph) bool {
	whole := g.Edges[:len(g.Edges)+1]
	return slices.Equal(g.Edges, before.Edges) && whole[len(g.Edges)] == edge(77, 77, 77, 77)
}

// R3: no argument is changed, nor shared with a result.
func TestArgumentsStayAsTheyAre(t *testing.T) {
	for _, before := range someGraphs() {
		g := spare(before)
		Check(g)
		c, _ := Closure(g)
		order := Order(g)
		if !sameSpare(g, before) {
			t.Errorf("%v was changed to %v", before, g)
		}
		scribble(c, order)
		if !sameSpare(g, before) {
			t.Errorf("%v is shared: got %v", before, g)
		}
	}
}

// scribble writes over all that c and order are made of, with what their arrays have behind it.
func scribble(c [][][]api.Path, order []int) {
	for i := range order[:cap(order)] {
		order[:cap(order)][i] = -9
	}
	for _, row := range c {
		for _, l := range row {
			for i := range l[:cap(l)] {
				l[:cap(l)][i] = by(-9, -9)
			}
		}
		clear(row[:cap(row)])
	}
	clear(c[:cap(c)])
}

// R3: what was given for an argument may be changed after the call, and two results share nothing.
func TestResultsStayAsTheyAre(t *testing.T) {
	for _, before := range someGraphs() {
		g := graphOf(before.Nodes, slices.Clone(before.Edges)...)
		c, err := Closure(g)
		order := Order(g)
		other, _ := Closure(g)
		scribble(other, Order(g))
		for i := range g.Edges {
			g.Edges[i] = edge(-9, -9, -9, -9)
		}
		if want, wantErr := wantClosure(before, mostNodes); !sameClosure(c, want) || err != wantErr {
			t.Errorf("Closure(%v): got %v %d, want %v %d", before, c, err, want, wantErr)
		}
		if want := wantOrder(before); !slices.Equal(order, want) {
			t.Errorf("Order(%v): got %v, want %v", before, order, want)
		}
	}
}

// R3: no row of a closure, and no list of a row, shares memory with another one, nor runs into it when it grows.
func TestRowsAreApart(t *testing.T) {
	mark := []api.Path{by(-9, -9)}
	for _, g := range someGraphs() {
		want, _ := wantClosure(g, mostNodes)
		for i := range want {
			c, _ := Closure(g)
			row := append(c[i], mark)
			for j := range row[:cap(row)] {
				row[:cap(row)][j] = mark
			}
			for j := range c[i] {
				c[i][j] = mark
			}
			c[i] = want[i]
			if !sameClosure(c, want) {
				t.Errorf("%v: row %d is shared: got %v", g, i, c)
			}
			for j := range want[i] {
				c, _ := Closure(g)
				l := append(c[i][j], mark...)
				for k := range l[:cap(l)] {
					l[:cap(l)][k] = mark[0]
				}
				for k := range c[i][j] {
					c[i][j][k] = mark[0]
				}
				c[i][j] = want[i][j]
				if !sameClosure(c, want) {
					t.Errorf("%v: the paths from %d to %d are shared: got %v", g, i, j, c)
				}
			}
		}
	}
}

// R4: the same graph gives the same results, whatever was asked in between.
func TestCallsAreApart(t *testing.T) {
	for _, g := range someGraphs() {
		before, err := Closure(g)
		order := Order(g)
		for _, other := range someGraphs() {
			Check(other)
			Closure(other)
			Order(other)
		}
		after, errAfter := Closure(g)
		if !sameClosure(before, after) || err != errAfter || !slices.Equal(order, Order(g)) {
			t.Errorf("%v: got %v %d, and then %v %d", g, before, err, after, errAfter)
		}
	}
}

// P0: edges in great number are refused at once.
func TestGreatGraphs(t *testing.T) {
	g := graphOf(8, slices.Repeat([]api.Edge{edge(0, 1, 0, 0)}, 1000000)...)
	if err, at := Check(g); err != 4 || at != -1 || !refused(g, 4) {
		t.Errorf("got %d %d", err, at)
	}
}

// P0: the greatest numbers of walks that 16 edges make.
func TestMostWalks(t *testing.T) {
	r := rand.New(rand.NewSource(69))
	graphs := []api.Graph{
		graphOf(6, slices.Concat(hop(0, 1, 3, 108), hop(1, 2, 3, 36), hop(2, 3, 3, 12), hop(3, 4, 3, 4), hop(4, 5, 4, 1))...),
		graphOf(8, slices.Concat(chain(7, 2, 1), []api.Edge{edge(7, 0, 0, 1), edge(7, 0, 1, 0)})...),
		graphOf(8, append(chain(7, 2, 1), edge(7, 0, 1, 1), edge(0, 7, 0, 0))...),
	}
	for _, g := range graphs {
		for range 10 {
			checkClosure(t, g, mostNodes)
			checkOrder(t, g)
			g = turned(r, g)
		}
	}
}

// P0, P6.1 to P6.3: any graph at all.
func FuzzGraphs(f *testing.F) {
	f.Add(2, []byte{0, 1, 0, 0, 1, 0, 0, 1})
	f.Add(2, []byte{0, 1, 0, 0, 1, 0, 0, 0})
	f.Add(3, []byte{0, 1, 1, 0, 1, 2, 0, 1, 0, 2, 1, 1, 2, 0, 255, 0})
	f.Add(1, []byte{0, 0, 0, 250, 0, 9, 0, 0})
	f.Add(9, []byte{8, 8, 0, 1})
	f.Add(-1, []byte{})
	f.Fuzz(func(t *testing.T, nodes int, b []byte) {
		g := graphOf(nodes)
		for ; len(b) >= 4 && len(g.Edges) < 20; b = b[4:] {
			g.Edges = append(g.Edges, edge(number(b[0]), number(b[1]), number(b[2]), number(b[3])))
		}
		checkCheck(t, g)
		checkClosure(t, g, mostNodes)
		checkOrder(t, g)
	})
}

// number is a node or a part: most bytes stand for a small one, and some for one at a limit.
func number(b byte) int {
	switch b {
	case 255:
		return mostPart
	case 254:
		return mostPart + 1
	case 253:
		return -1
	case 252:
		return mostPart / 2
	case 251:
		return math.MaxInt
	case 250:
		return math.MinInt
	}
	return int(b % 11)
}
