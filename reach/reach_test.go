package reach

import (
	"math"
	"math/rand"
	"slices"
	"testing"

	"garboard/api"
	"garboard/graph"
)

// The limits, by their numbers, so that no test leans on the constants.
const (
	mostNodes = 8
	most      = 1000000
)

// ends are parts that are valid, that just aren't, and the type's own ends.
var ends = []int{math.MinInt, math.MinInt + 1, -1000001, -1, 0, 1, 500000, 999999, 1000000, 1000001, math.MaxInt - 1, math.MaxInt}

func at(node, epoch, round int) api.Point {
	return api.Point{Node: node, T: api.Stamp{Epoch: epoch, Round: round}}
}

func st(epoch, round int) api.Stamp { return api.Stamp{Epoch: epoch, Round: round} }

func by(epoch, round int) api.Path { return api.Path{Epoch: epoch, Round: round} }

func edge(from, to, epoch, round int) api.Edge {
	return api.Edge{From: from, To: to, Path: by(epoch, round)}
}

// part, valid, lessEq and ahead are in the document's words, so that no test leans on packages stamp and anti.
func part(n int) bool { return n >= 0 && n <= most }

func valid(t api.Stamp) bool { return part(t.Epoch) && part(t.Round) }

func lessEq(a, b api.Stamp) bool { return a.Epoch <= b.Epoch && a.Round <= b.Round }

func ahead(a, b api.Stamp) bool {
	return a.Epoch < b.Epoch || a.Epoch == b.Epoch && a.Round < b.Round
}

// wantAfter is stamp.After by the words of P2.2.
func wantAfter(t api.Stamp, p api.Path) (api.Stamp, bool) {
	if !valid(t) || !part(p.Epoch) || !part(p.Round) || !valid(st(t.Epoch+p.Epoch, t.Round+p.Round)) {
		return api.Stamp{}, false
	}
	return st(t.Epoch+p.Epoch, t.Round+p.Round), true
}

// wantMin holds each timestamp against all others, and puts it at its place.
func wantMin(l []api.Stamp) []api.Stamp {
	var least []api.Stamp
	for _, t := range l {
		if slices.ContainsFunc(l, func(s api.Stamp) bool { return s != t && lessEq(s, t) }) {
			continue
		}
		i := 0
		for i < len(least) && ahead(least[i], t) {
			i++
		}
		if i == len(least) || least[i] != t {
			least = slices.Insert(least, i, t)
		}
	}
	return least
}

// wantRight is Right by the words of P7.1.
func wantRight(c [][][]api.Path, p api.Point) bool {
	if len(c) == 0 || len(c) > mostNodes {
		return false
	}
	for _, row := range c {
		if len(row) != len(c) {
			return false
		}
	}
	return p.Node >= 0 && p.Node < len(c) && valid(p.T)
}

// wantPlaces is Places by the words of P7.2.
func wantPlaces(c [][][]api.Path, p api.Point, node int) []api.Stamp {
	if !wantRight(c, p) || node < 0 || node >= len(c) {
		return nil
	}
	var l []api.Stamp
	for _, way := range c[p.Node][node] {
		if t, ok := wantAfter(p.T, way); ok {
			l = append(l, t)
		}
	}
	return wantMin(l)
}

// wantCould is Could by the words of P7.3.
func wantCould(c [][][]api.Path, a, b api.Point) bool {
	covers := slices.ContainsFunc(wantPlaces(c, a, b.Node), func(t api.Stamp) bool { return lessEq(t, b.T) })
	return covers && wantRight(c, b)
}

// checkRight holds Right against the words of P7.1.
func checkRight(t *testing.T, c [][][]api.Path, p api.Point) {
	t.Helper()
	if got, want := Right(c, p), wantRight(c, p); got != want {
		t.Errorf("Right(%v, %v): got %v", c, p, got)
	}
}

// checkPlaces holds Places against the words of P7.2.
func checkPlaces(t *testing.T, c [][][]api.Path, p api.Point, node int) {
	t.Helper()
	if got, want := Places(c, p, node), wantPlaces(c, p, node); !slices.Equal(got, want) {
		t.Errorf("Places(%v, %v, %d): got %v, want %v", c, p, node, got, want)
	}
}

// checkCould holds Could against the words of P7.3.
func checkCould(t *testing.T, c [][][]api.Path, a, b api.Point) {
	t.Helper()
	if got, want := Could(c, a, b), wantCould(c, a, b); got != want {
		t.Errorf("Could(%v, %v, %v): got %v", c, a, b, got)
	}
}

// checkAll holds all calls against their words.
func checkAll(t *testing.T, c [][][]api.Path, a, b api.Point) {
	t.Helper()
	checkRight(t, c, a)
	checkPlaces(t, c, a, b.Node)
	checkCould(t, c, a, b)
}

// filled has n lists of n places, at each of which are these paths.
func filled(n int, paths ...api.Path) [][][]api.Path {
	c := make([][][]api.Path, n)
	for i := range c {
		c[i] = make([][]api.Path, n)
		for j := range c[i] {
			c[i][j] = slices.Clone(paths)
		}
	}
	return c
}

// between leads from node 0 to node 1 by these paths, and nowhere else.
func between(paths ...api.Path) [][][]api.Path {
	c := filled(2)
	c[0][1] = paths
	return c
}

// withRow is filled with zero paths, but the list at i has another length.
func withRow(n, i, length int) [][][]api.Path {
	c := filled(n, by(0, 0))
	c[i] = slices.Repeat([][]api.Path{{by(0, 0)}}, length)
	return c
}

// closureOf is the closure of a graph that is expected to have one.
func closureOf(t *testing.T, nodes int, edges ...api.Edge) [][][]api.Path {
	t.Helper()
	c, err := graph.Closure(api.Graph{Nodes: nodes, Edges: edges})
	if err != api.OK {
		t.Fatalf("no closure of %d nodes and %v: %v", nodes, edges, err)
	}
	return c
}

// pointsAt are all points of some nodes with these parts.
func pointsAt(nodes, parts []int) []api.Point {
	var list []api.Point
	for _, node := range nodes {
		for _, e := range parts {
			for _, r := range parts {
				list = append(list, at(node, e, r))
			}
		}
	}
	return list
}

// upTo are the numbers from 0 to n - 1.
func upTo(n int) []int {
	var list []int
	for i := range n {
		list = append(list, i)
	}
	return list
}

// The chapter's examples.
func TestExamples(t *testing.T) {
	c := closureOf(t, 2, edge(0, 1, 0, 0), edge(1, 0, 0, 1))
	if got := Places(c, at(1, 2, 3), 0); !slices.Equal(got, []api.Stamp{st(2, 4)}) {
		t.Errorf("Places: got %v", got)
	}
	if !Could(c, at(0, 2, 3), at(1, 2, 3)) {
		t.Error("Could along the edge: got false")
	}
	if Could(c, at(1, 2, 3), at(0, 2, 3)) {
		t.Error("Could back along the edge: got true")
	}
	if !Could(c, at(0, 2, 3), at(0, 2, 4)) {
		t.Error("Could around the loop: got false")
	}
}

// P7.1: 1 to 8 lists, each with as many elements as there are lists.
func TestRightLists(t *testing.T) {
	for n := range 12 {
		want := n >= 1 && n <= 8
		for _, c := range [][][][]api.Path{filled(n), filled(n, by(0, 0)), filled(n, by(1, 2), by(2, 1)), filled(n, by(-1, -1))} {
			if got := Right(c, at(0, 0, 0)); got != want {
				t.Errorf("%d lists: got %v", n, got)
			}
		}
		if got := Right(make([][][]api.Path, n), at(0, 0, 0)); got {
			t.Errorf("%d lists without elements: got %v", n, got)
		}
	}
	if Right(nil, at(0, 0, 0)) || Right([][][]api.Path{}, at(0, 0, 0)) {
		t.Error("no lists: got true")
	}
	// The places of a list may be nil.
	if !Right([][][]api.Path{{nil}}, at(0, 0, 0)) || !Right([][][]api.Path{{nil, {}}, {{}, nil}}, at(1, 0, 0)) {
		t.Error("places without paths: got false")
	}
}

// P7.1 to P7.3: one list, wherever it is, has another length, and then nothing is given.
func TestOneListOfAnotherLength(t *testing.T) {
	for n := 1; n <= mostNodes+1; n++ {
		for i := range n {
			for _, length := range []int{0, 1, n - 1, n, n + 1, 7, 8, 9, 1000} {
				c := withRow(n, i, length)
				want := length == n && n <= mostNodes
				for node := range n {
					p := at(node, 1, 1)
					if Right(c, p) != want || (len(Places(c, p, 0)) == 1) != want || Could(c, p, p) != want {
						t.Errorf("%d lists, list %d has %d, node %d: got %v %v %v", n, i, length, node, Right(c, p), Places(c, p, 0), Could(c, p, p))
					}
				}
			}
		}
	}
	// Their sum is as it should be.
	for _, lengths := range [][]int{{1, 3}, {3, 1}, {2, 4, 3}, {4, 3, 2}, {3, 2, 4}, {0, 4}, {9, 0, 0}, {2, 3, 2, 9, 4, 4, 4, 4}} {
		c := filled(len(lengths))
		for i, n := range lengths {
			c[i] = slices.Repeat([][]api.Path{{by(0, 0)}}, n)
		}
		for node := range lengths {
			if p := at(node, 0, 0); Right(c, p) || Places(c, p, 0) != nil || Could(c, p, p) {
				t.Errorf("lists of %v: got true", lengths)
			}
		}
	}
	// All have the same length, but it is another one.
	for _, size := range [][]int{{1, 2}, {2, 1}, {2, 3}, {7, 8}, {8, 7}, {8, 9}, {8, 0}} {
		c := slices.Repeat([][][]api.Path{slices.Repeat([][]api.Path{{by(0, 0)}}, size[1])}, size[0])
		if p := at(0, 0, 0); Right(c, p) || Places(c, p, 0) != nil || Could(c, p, p) {
			t.Errorf("%d lists of %d: got true", size[0], size[1])
		}
	}
}

// P7.1 to P7.3: nodes that are there, that just aren't, and the type's ends.
func TestNodes(t *testing.T) {
	for n := 1; n <= mostNodes; n++ {
		c := filled(n, by(0, 0))
		for _, node := range append(upTo(n), math.MinInt, -8, -2, -1, n, n+1, 8, 9, math.MaxInt) {
			there := node >= 0 && node < n
			p := at(node, 1, 2)
			if got := Right(c, p); got != there {
				t.Errorf("%d lists: Right of node %d: got %v", n, node, got)
			}
			for i := range n {
				if got := Places(c, p, i); (len(got) == 1) != there || !there && got != nil {
					t.Errorf("%d lists: Places from node %d to %d: got %v", n, node, i, got)
				}
				if got := Places(c, at(i, 1, 2), node); (len(got) == 1) != there || !there && got != nil {
					t.Errorf("%d lists: Places from node %d to %d: got %v", n, i, node, got)
				}
				if got := Could(c, p, at(i, 1, 2)); got != there {
					t.Errorf("%d lists: Could from node %d to %d: got %v", n, node, i, got)
				}
				if got := Could(c, at(i, 1, 2), p); got != there {
					t.Errorf("%d lists: Could from node %d to %d: got %v", n, i, node, got)
				}
			}
		}
	}
}

// P7.1 to P7.3: timestamps that are valid, that just aren't, and the type's ends.
func TestTimestamps(t *testing.T) {
	c := filled(2, by(0, 0))
	for _, epoch := range ends {
		for _, round := range ends {
			p, zero, greatest := at(1, epoch, round), at(0, 0, 0), at(0, most, most)
			want := epoch >= 0 && epoch <= 1000000 && round >= 0 && round <= 1000000
			if got := Right(c, p); got != want {
				t.Errorf("Right of %v: got %v", p, got)
			}
			if got := Places(c, p, 0); (len(got) == 1 && got[0] == p.T) != want || !want && got != nil {
				t.Errorf("Places from %v: got %v", p, got)
			}
			if Could(c, p, p) != want || Could(c, zero, p) != want || Could(c, p, greatest) != want {
				t.Errorf("Could from and to %v: got %v %v %v", p, Could(c, p, p), Could(c, zero, p), Could(c, p, greatest))
			}
		}
	}
}

// P7.2: lists of paths whose places are written out, from (2, 3).
func TestPlaces(t *testing.T) {
	const left = most - 2 // what may be added to epoch 2
	cases := []struct {
		name string
		l    []api.Path
		want []api.Stamp
	}{
		{"nil", nil, nil},
		{"empty", []api.Path{}, nil},
		{"zero", []api.Path{by(0, 0)}, []api.Stamp{st(2, 3)}},
		{"one", []api.Path{by(1, 0)}, []api.Stamp{st(3, 3)}},
		{"both parts", []api.Path{by(10, 20)}, []api.Stamp{st(12, 23)}},
		{"twice", []api.Path{by(0, 1), by(0, 1)}, []api.Stamp{st(2, 4)}},
		{"twice, apart", []api.Path{by(0, 1), by(1, 0), by(0, 1), by(1, 0)}, []api.Stamp{st(2, 4), st(3, 3)}},
		{"incomparable, increasing", []api.Path{by(0, 2), by(1, 1), by(2, 0)}, []api.Stamp{st(2, 5), st(3, 4), st(4, 3)}},
		{"incomparable, decreasing", []api.Path{by(2, 0), by(1, 1), by(0, 2)}, []api.Stamp{st(2, 5), st(3, 4), st(4, 3)}},
		{"one epoch", []api.Path{by(1, 5), by(1, 4), by(1, 6)}, []api.Stamp{st(3, 7)}},
		{"one round", []api.Path{by(5, 1), by(4, 1), by(6, 1)}, []api.Stamp{st(6, 4)}},
		{"the first is covered", []api.Path{by(1, 1), by(0, 1)}, []api.Stamp{st(2, 4)}},
		{"the last is covered", []api.Path{by(0, 1), by(1, 1)}, []api.Stamp{st(2, 4)}},
		{"some are covered", []api.Path{by(3, 3), by(0, 9), by(2, 2), by(9, 0), by(1, 9), by(2, 2)}, []api.Stamp{st(2, 12), st(4, 5), st(11, 3)}},
		{"all are covered by zero", []api.Path{by(0, 2), by(1, 1), by(0, 0), by(2, 0)}, []api.Stamp{st(2, 3)}},
		{"the greatest", []api.Path{by(left, most-3)}, []api.Stamp{st(most, most)}},
		{"epoch just too great", []api.Path{by(left+1, 0)}, nil},
		{"round just too great", []api.Path{by(0, most-2)}, nil},
		{"epoch too great, first of two", []api.Path{by(left+1, 0), by(left, 1)}, []api.Stamp{st(most, 4)}},
		{"round too great, last of two", []api.Path{by(left, 1), by(0, most-2)}, []api.Stamp{st(most, 4)}},
		{"too great in the middle", []api.Path{by(0, 2), by(most, most), by(2, 0)}, []api.Stamp{st(2, 5), st(4, 3)}},
		{"all too great", []api.Path{by(most, 0), by(0, most), by(most, most)}, nil},
		{"epoch -1", []api.Path{by(-1, 0)}, nil},
		{"round -1", []api.Path{by(0, -1)}, nil},
		{"sum of both is zero", []api.Path{by(-2, -3)}, nil},
		{"epoch -1, first of two", []api.Path{by(-1, 0), by(1, 1)}, []api.Stamp{st(3, 4)}},
		{"round -1, last of two", []api.Path{by(1, 1), by(0, -1)}, []api.Stamp{st(3, 4)}},
		{"not valid in the middle", []api.Path{by(0, 2), by(-1, -1), by(2, 0)}, []api.Stamp{st(2, 5), st(4, 3)}},
		{"epoch above the limit", []api.Path{by(most+1, 0)}, nil},
		{"round above the limit", []api.Path{by(0, most+1)}, nil},
		{"none valid", []api.Path{by(-1, 5), by(5, -1), by(most+1, 0)}, nil},
		{"the type's ends", []api.Path{by(math.MinInt, 0), by(0, math.MinInt), by(math.MaxInt, 0), by(0, math.MaxInt), by(math.MinInt, math.MaxInt)}, nil},
		{"the type's ends, and one", []api.Path{by(math.MaxInt, math.MaxInt), by(3, 0), by(math.MinInt, math.MinInt)}, []api.Stamp{st(5, 3)}},
	}
	for _, c := range cases {
		if got := Places(between(c.l...), at(0, 2, 3), 1); !slices.Equal(got, c.want) {
			t.Errorf("%s: Places of %v: got %v, want %v", c.name, c.l, got, c.want)
		}
		slices.Reverse(c.l)
		if got := Places(between(c.l...), at(0, 2, 3), 1); !slices.Equal(got, c.want) {
			t.Errorf("%s, reversed: Places of %v: got %v, want %v", c.name, c.l, got, c.want)
		}
	}
}

// P7.2: the paths from the point's node to the other one, and none besides.
func TestPlacesOfTheRightList(t *testing.T) {
	for n := 1; n <= mostNodes; n++ {
		c := filled(n)
		for i := range n {
			for j := range n {
				c[i][j] = []api.Path{by(i+1, 10*j+10)}
			}
		}
		for i := range n {
			for j := range n {
				if got := Places(c, at(i, 100, 200), j); !slices.Equal(got, []api.Stamp{st(101+i, 210+10*j)}) {
					t.Errorf("%d lists, from %d to %d: got %v", n, i, j, got)
				}
			}
		}
	}
	// A path of a place that is not asked for may be anything.
	c := filled(3, by(-1, math.MaxInt))
	c[2][0] = []api.Path{by(1, 2)}
	if got := Places(c, at(2, 3, 4), 0); !slices.Equal(got, []api.Stamp{st(4, 6)}) {
		t.Errorf("other paths are not valid: got %v", got)
	}
	if !Could(c, at(2, 3, 4), at(0, 4, 6)) || Could(c, at(0, 3, 4), at(2, 9, 9)) {
		t.Error("other paths are not valid: Could")
	}
}

// P7.2: a place may have any number of paths.
func TestManyPaths(t *testing.T) {
	for _, n := range []int{63, 64, 65, 100, 2000} {
		var l []api.Path
		var want []api.Stamp
		for i := range n {
			l = append(l, by(n-1-i, i))
			want = append(want, st(7+i, 9+n-1-i))
		}
		if got := Places(between(l...), at(0, 7, 9), 1); !slices.Equal(got, want) {
			t.Errorf("%d paths: got %d places", n, len(got))
		}
		for _, p := range want {
			if !Could(between(l...), at(0, 7, 9), api.Point{Node: 1, T: p}) || Could(between(l...), at(0, 7, 9), at(1, p.Epoch-1, p.Round)) {
				t.Errorf("%d paths: Could to %v", n, p)
			}
		}
	}
	l := slices.Repeat([]api.Path{by(5, 5)}, 100000)
	if got := Places(between(l...), at(0, 0, 0), 1); !slices.Equal(got, []api.Stamp{st(5, 5)}) {
		t.Errorf("one path 100000 times: got %v", got)
	}
}

// P7.3: b equal to a place, covered, just ahead of it, incomparable, or not valid; the places at node 1 are (2, 9) and (5, 4).
func TestCould(t *testing.T) {
	c := between(by(0, 6), by(3, 1), by(3, 2), by(-1, -1), by(most, most))
	cases := []struct {
		name string
		b    api.Point
		want bool
	}{
		{"equal to the first place", at(1, 2, 9), true},
		{"equal to the last place", at(1, 5, 4), true},
		{"an epoch later", at(1, 3, 9), true},
		{"a round later", at(1, 2, 10), true},
		{"later than the last alone", at(1, 6, 5), true},
		{"later than both", at(1, 7, 12), true},
		{"the greatest", at(1, most, most), true},
		{"the greatest epoch", at(1, most, 4), true},
		{"the greatest round", at(1, 2, most), true},
		{"epoch just too small", at(1, 1, 9), false},
		{"round just too small", at(1, 2, 8), false},
		{"round just too small for the last", at(1, 5, 3), false},
		{"epoch just too small for the last", at(1, 4, 4), false},
		{"between both", at(1, 4, 8), false},
		{"incomparable, greatest epoch", at(1, most, 3), false},
		{"incomparable, greatest round", at(1, 1, most), false},
		{"zero", at(1, 0, 0), false},
		{"where it comes from", at(1, 2, 3), false},
		{"epoch beyond the limit", at(1, most+1, 9), false},
		{"round beyond the limit", at(1, 2, most+1), false},
		{"both beyond the limit", at(1, most+1, most+1), false},
		{"the type's greatest", at(1, math.MaxInt, math.MaxInt), false},
		{"epoch -1", at(1, -1, 9), false},
		{"round -1", at(1, 5, -1), false},
		{"the type's least", at(1, math.MinInt, math.MinInt), false},
		{"node -1", at(-1, 9, 9), false},
		{"node 2", at(2, 9, 9), false},
		{"node 0, where nothing leads", at(0, 9, 9), false},
	}
	for _, x := range cases {
		if got := Could(c, at(0, 2, 3), x.b); got != x.want {
			t.Errorf("%s: got %v", x.name, got)
		}
		checkCould(t, c, at(0, 2, 3), x.b)
	}
	for _, a := range []api.Point{at(-1, 2, 3), at(2, 2, 3), at(0, -1, 3), at(0, 2, -1), at(0, most+1, 3), at(0, 2, most+1), at(1, 2, 3)} {
		if Could(c, a, at(1, 9, 9)) || Could(c, a, at(1, most, most)) {
			t.Errorf("from %v: got true", a)
		}
	}
}

// P7.1 to P7.3 by their words: all small lists of paths, and points around them.
func TestSmallListsByTheirWords(t *testing.T) {
	var paths []api.Path
	for _, e := range []int{-1, 0, 1, 2} {
		for _, r := range []int{-1, 0, 1, 2} {
			paths = append(paths, by(e, r))
		}
	}
	points := pointsAt([]int{-1, 0, 1, 2}, []int{-1, 0, 1, most - 1, most, most + 1})
	for _, p := range paths {
		for _, q := range paths {
			c := between(p, q)
			for i, a := range points {
				checkAll(t, c, a, points[(7*i+3)%len(points)])
				checkAll(t, c, a, at(1, 1, 1))
				checkAll(t, c, a, at(1, most, most))
			}
		}
	}
}

// randomLists are often as a closure has them, with some paths that are not valid.
func randomLists(r *rand.Rand) [][][]api.Path {
	parts := []int{0, 0, 1, 2, 3, 4, most / 2, most - 1, most, -1, most + 1, math.MaxInt, math.MinInt}
	c := filled(r.Intn(mostNodes + 2))
	for i := range c {
		for j := range c[i] {
			for range r.Intn(6) {
				c[i][j] = append(c[i][j], by(parts[r.Intn(len(parts))], parts[r.Intn(len(parts))]))
			}
		}
	}
	if len(c) > 0 && r.Intn(4) == 0 {
		i := r.Intn(len(c))
		c[i] = append(c[i], nil)[:r.Intn(len(c)+2)]
	}
	return c
}

// P7.1 to P7.3 by their words, of lists at random.
func TestRandomListsByTheirWords(t *testing.T) {
	r := rand.New(rand.NewSource(70))
	parts := []int{0, 1, 2, 3, most / 2, most - 1, most, -1, most + 1}
	right := 0
	for range 20000 {
		c := randomLists(r)
		point := func() api.Point {
			return at(r.Intn(len(c)+3)-1, parts[r.Intn(len(parts))], parts[r.Intn(len(parts))])
		}
		a, b := point(), point()
		checkAll(t, c, a, b)
		if wantRight(c, a) && wantRight(c, b) {
			right++
		}
	}
	if right < 1000 {
		t.Errorf("only %d pairs of points are valid", right)
	}
}

// cyclic are graphs with cycles, and one without.
func cyclic() []api.Graph {
	graphs := []api.Graph{
		{Nodes: 1, Edges: []api.Edge{edge(0, 0, 0, 1)}},
		{Nodes: 1, Edges: []api.Edge{edge(0, 0, 1, 0), edge(0, 0, 0, 2)}},
		{Nodes: 2, Edges: []api.Edge{edge(0, 1, 0, 0), edge(1, 0, 0, 1)}},
		{Nodes: 2, Edges: []api.Edge{edge(0, 1, 0, 2), edge(0, 1, 1, 0), edge(1, 0, 1, 0), edge(1, 0, 0, 1)}},
		{Nodes: 3, Edges: []api.Edge{edge(0, 1, 0, 0), edge(1, 0, 0, 1), edge(1, 2, 1, 0)}},
		{Nodes: 3, Edges: []api.Edge{edge(0, 1, 0, 0), edge(1, 2, 0, 0), edge(2, 0, 0, 1), edge(1, 1, 1, 0)}},
		{Nodes: 3, Edges: []api.Edge{edge(0, 1, 0, 1), edge(1, 2, 1, 0), edge(0, 2, 2, 0), edge(0, 2, 0, 2), edge(2, 1, 0, 3)}},
		{Nodes: 3, Edges: []api.Edge{edge(2, 1, 1, 0), edge(1, 0, 0, 1)}},
		{Nodes: 4, Edges: []api.Edge{edge(0, 1, 0, 0), edge(1, 2, 0, 1), edge(2, 1, 0, 0), edge(2, 3, 0, 0), edge(3, 0, 1, 0)}},
	}
	ring := api.Graph{Nodes: mostNodes}
	for i := range mostNodes {
		ring.Edges = append(ring.Edges, edge(i, (i+1)%mostNodes, i/7, i%2))
	}
	return append(graphs, ring)
}

// P7.4: a point can reach itself, and Could is transitive, for all points of a grid at either end of the valid ones.
func TestCouldIsReflexiveAndTransitive(t *testing.T) {
	for _, g := range cyclic() {
		c := closureOf(t, g.Nodes, g.Edges...)
		for _, parts := range [][]int{{0, 1, 2, 3}, {0, most - 1, most}, {most - 2, most - 1, most}} {
			points := pointsAt(upTo(g.Nodes), parts)
			could := make([][]bool, len(points))
			for i, a := range points {
				could[i] = make([]bool, len(points))
				for j, b := range points {
					could[i][j] = Could(c, a, b)
				}
				if !could[i][i] {
					t.Errorf("%v: %v can't reach itself", g, a)
				}
			}
			for i := range points {
				for j := range points {
					for k := range points {
						if could[i][j] && could[j][k] && !could[i][k] {
							t.Errorf("%v: from %v to %v to %v, but not from the first to the last", g, points[i], points[j], points[k])
						}
					}
				}
			}
		}
	}
}

// P7.4: what can reach a point can reach the one after an edge, and all later ones.
func TestCouldAlongEdges(t *testing.T) {
	for _, g := range cyclic() {
		c := closureOf(t, g.Nodes, g.Edges...)
		for _, parts := range [][]int{{0, 1, 2}, {most - 2, most - 1, most}} {
			points := pointsAt(upTo(g.Nodes), parts)
			for _, a := range points {
				for _, b := range points {
					if Could(c, a, b) {
						checkBehind(t, g, c, a, b)
					}
				}
			}
		}
	}
}

// checkBehind asks whether a can reach what is behind b, and later.
func checkBehind(t *testing.T, g api.Graph, c [][][]api.Path, a, b api.Point) {
	t.Helper()
	for _, e := range g.Edges {
		after, ok := wantAfter(b.T, e.Path)
		if e.From != b.Node || !ok {
			continue
		}
		for _, later := range []api.Stamp{after, st(after.Epoch+1, after.Round), st(after.Epoch, after.Round+1), st(most, after.Round), st(most, most)} {
			if p := (api.Point{Node: e.To, T: later}); valid(later) && (!Could(c, b, p) || !Could(c, a, p)) {
				t.Errorf("%v: %v can reach %v, but they can't both reach %v", g, a, b, p)
			}
		}
	}
}

// arrivals are the timestamps at each node at which something arrives that is at p and goes along at most n edges.
func arrivals(g api.Graph, p api.Point, n int) [][]api.Stamp {
	come := make([][]api.Stamp, g.Nodes)
	come[p.Node] = []api.Stamp{p.T}
	for range n {
		next := make([][]api.Stamp, g.Nodes)
		copy(next, come)
		for _, e := range g.Edges {
			for _, s := range come[e.From] {
				if after, ok := wantAfter(s, e.Path); ok && !slices.Contains(next[e.To], after) {
					next[e.To] = append(slices.Clone(next[e.To]), after)
				}
			}
		}
		come = next
	}
	return come
}

// P7.2, P7.4: the places of a closure are the least timestamps at which something arrives that goes along edges.
func TestPlacesOfClosures(t *testing.T) {
	for _, g := range cyclic() {
		c := closureOf(t, g.Nodes, g.Edges...)
		for _, p := range pointsAt(upTo(g.Nodes), []int{0, 3, most - 2, most}) {
			for node, l := range arrivals(g, p, g.Nodes+1) {
				if got, want := Places(c, p, node), wantMin(l); !slices.Equal(got, want) {
					t.Errorf("%v: Places from %v to %d: got %v, want %v", g, p, node, got, want)
				}
			}
		}
	}
}

// P7.4 for graphs and points at random.
func TestRandomClosures(t *testing.T) {
	r := rand.New(rand.NewSource(71))
	closures, triples := 0, 0
	for range 1500 {
		parts := [][]int{{0, 0, 1, 2, 3}, {0, 1, 400000, 600000, most}}[r.Intn(2)]
		g := api.Graph{Nodes: 1 + r.Intn(mostNodes)}
		for range r.Intn(17) {
			g.Edges = append(g.Edges, edge(r.Intn(g.Nodes), r.Intn(g.Nodes), parts[r.Intn(5)], parts[r.Intn(5)]))
		}
		c, err := graph.Closure(g)
		if err != api.OK {
			continue
		}
		closures++
		for range 200 {
			point := func() api.Point { return at(r.Intn(g.Nodes), parts[r.Intn(5)], parts[r.Intn(5)]) }
			x, y, z := point(), point(), point()
			if !Could(c, x, x) {
				t.Errorf("%v: %v can't reach itself", g, x)
			}
			if !Could(c, x, y) {
				continue
			}
			checkBehind(t, g, c, x, y)
			if Could(c, y, z) {
				triples++
				if !Could(c, x, z) {
					t.Errorf("%v: from %v to %v to %v, but not from the first to the last", g, x, y, z)
				}
			}
		}
	}
	if closures < 300 || triples < 3000 {
		t.Errorf("only %d closures, and %d times from point to point to point", closures, triples)
	}
}

// spare is c in new memory, where each list goes on with what no call may touch.
func spare(c [][][]api.Path) [][][]api.Path {
	whole := make([][][]api.Path, 0, len(c)+1)
	for _, row := range c {
		list := make([][]api.Path, 0, len(row)+1)
		for _, l := range row {
			list = append(list, append(slices.Clone(l), by(77, 77))[:len(l)])
		}
		whole = append(whole, append(list, []api.Path{by(77, 77)})[:len(row)])
	}
	return append(whole, [][]api.Path{{by(77, 77)}})[:len(c)]
}

// sameSpare reports whether c, made by spare, is still the same as before, with what goes on behind its lists.
func sameSpare(c, before [][][]api.Path) bool {
	same := slices.EqualFunc(c, before, func(r, s [][]api.Path) bool {
		return slices.EqualFunc(r, s, slices.Equal)
	})
	for _, row := range c {
		for _, l := range row {
			same = same && l[:len(l)+1][len(l)] == by(77, 77)
		}
		same = same && slices.Equal(row[:len(row)+1][len(row)], []api.Path{by(77, 77)})
	}
	last := c[:len(c)+1][len(c)]
	return same && len(last) == 1 && slices.Equal(last[0], []api.Path{by(77, 77)})
}

// someLists are of each kind: those that may be a closure, and those that may not.
func someLists() [][][][]api.Path {
	return [][][][]api.Path{
		nil, filled(1), filled(1, by(0, 0)), filled(8, by(2, 0), by(0, 2)), filled(9, by(0, 0)),
		withRow(3, 1, 2), withRow(3, 2, 4),
		between(by(5, 0), by(0, 5), by(-1, 0), by(1, 1), by(1, 1), by(most, most), by(0, 9)),
		between(by(1, 0), by(0, 1)), between(),
	}
}

// R3: no argument is changed, nor shared with a result.
func TestArgumentsStayAsTheyAre(t *testing.T) {
	for _, before := range someLists() {
		c := spare(before)
		for _, p := range pointsAt([]int{-1, 0, 1, len(c)}, []int{-1, 0, 2, most}) {
			for node := range len(c) + 1 {
				Right(c, p)
				Could(c, p, at(node, 2, 2))
				got := Places(c, p, node)
				if !sameSpare(c, before) {
					t.Fatalf("%v was changed to %v", before, c)
				}
				scribble(got)
				if !sameSpare(c, before) {
					t.Fatalf("%v is shared: got %v", before, c)
				}
			}
		}
	}
}

// scribble writes over all that l is made of, with what its array has behind it.
func scribble(l []api.Stamp) {
	for i := range l[:cap(l)] {
		l[:cap(l)][i] = st(-9, -9)
	}
}

// R3: what was given for an argument may be changed after the call, and two results share nothing.
func TestResultsStayAsTheyAre(t *testing.T) {
	for _, before := range someLists() {
		for _, p := range pointsAt([]int{0, 1}, []int{0, 2, most}) {
			c := spare(before)
			got := Places(c, p, 1)
			scribble(Places(c, p, 1))
			for _, row := range c {
				for _, l := range row {
					for i := range l {
						l[i] = by(-9, -9)
					}
				}
				clear(row)
			}
			if want := wantPlaces(before, p, 1); !slices.Equal(got, want) {
				t.Errorf("Places(%v, %v, 1): got %v, want %v", before, p, got, want)
			}
		}
	}
}

// R4: the same arguments give the same results, whatever was asked in between.
func TestCallsAreApart(t *testing.T) {
	a, b := at(0, 1, 1), at(1, 2, 6)
	for _, c := range someLists() {
		right, places, could := Right(c, a), Places(c, a, 1), Could(c, a, b)
		for _, other := range someLists() {
			checkAll(t, other, b, a)
			checkAll(t, other, a, b)
		}
		if Right(c, a) != right || !slices.Equal(Places(c, a, 1), places) || Could(c, a, b) != could {
			t.Errorf("%v: got %v %v %v, and then others", c, right, places, could)
		}
	}
}

// P0: lists in great number, and long ones, are refused at once.
func TestGreatLists(t *testing.T) {
	many := make([][][]api.Path, 1000000)
	long := filled(2, by(0, 0))
	long[1] = make([][]api.Path, 1000000)
	for _, c := range [][][][]api.Path{many, long} {
		for _, p := range []api.Point{at(0, 0, 0), at(1, 0, 0), at(999999, 0, 0)} {
			if Right(c, p) || Places(c, p, 0) != nil || Places(c, p, 999999) != nil || Could(c, p, p) {
				t.Errorf("%d lists, the second of %d, from %v: not refused", len(c), len(c[1]), p)
			}
		}
	}
}

// P0, P7.1 to P7.3: any lists at all.
func FuzzLists(f *testing.F) {
	f.Add(2, 0, 2, 3, 1, 2, 4, []byte{0, 0, 0, 0})
	f.Add(1, 0, 0, 0, 0, 0, 0, []byte{0, 0})
	f.Add(2, 0, 2, 3, 1, 3, 9, []byte{1, 0, 1, 3, 1, 0, 1, 4, 2})
	f.Add(3, 2, 1000000, 0, 0, 1000001, 0, []byte{6, 255, 254, 6, 252, 252, 99})
	f.Add(9, -1, -1, 0, 9, 0, 0, []byte{})
	f.Fuzz(func(t *testing.T, n, node, epoch, round, toNode, toEpoch, toRound int, b []byte) {
		if n < 0 || n > 12 {
			return
		}
		c := filled(n)
		for ; len(b) >= 3 && n > 0; b = b[3:] {
			place := int(b[0]) % (n * n)
			l := &c[place/n][place%n]
			*l = append(*l, by(number(b[1]), number(b[2])))
		}
		if len(b) == 1 && n > 0 {
			c[int(b[0])%n] = make([][]api.Path, b[0]/16)
		}
		checkAll(t, c, at(node, epoch, round), at(toNode, toEpoch, toRound))
		checkAll(t, c, at(toNode, toEpoch, toRound), at(node, epoch, round))
	})
}

// number is a part: most bytes stand for a small one, and some for one at a limit.
func number(b byte) int {
	switch b {
	case 255:
		return most
	case 254:
		return most + 1
	case 253:
		return -1
	case 252:
		return most / 2
	case 251:
		return math.MaxInt
	case 250:
		return math.MinInt
	}
	return int(b % 11)
}
