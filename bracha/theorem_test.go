package bracha

import (
	"fmt"
	"math/rand"
	"slices"
	"testing"

	"garboard/api"
)

// message is something that is under way to a correct worker.
type message struct {
	to int
	input
}

// String tells it as a call of that worker.
func (m message) String() string { return fmt.Sprintf("%d: %v", m.to, m.input) }

// run is a broadcast among all workers of a cluster, of which some deviate: these have no broadcast here, and what they say is made by the test.
//
// An FInit is always the origin's, be that correct or not: that a worker lets no other one through is the matter of layer 15.
type run struct {
	cluster
	origin int
	text   string
	casts  [most]*Cast
	said   [most][]api.Frame
	done   [most]string
	isDone [most]bool

	way   []message
	taken []message
}

// runOf is a run of which these workers deviate; a correct origin has said the text.
func runOf(t *testing.T, k cluster, deviating []int, origin int, text string) *run {
	t.Helper()
	r := &run{cluster: k, origin: origin, text: text}
	for w := range k.n {
		if !slices.Contains(deviating, w) {
			r.casts[w], _ = castOf(t, k)
		}
	}
	if r.casts[origin] != nil {
		r.say(ini(origin, text))
	}
	return r
}

// say puts under way what a correct worker says, to all correct ones, itself among them.
func (r *run) say(i input) {
	for to := range r.n {
		r.send(to, i)
	}
}

// send puts something under way to one worker, if that is a correct one.
func (r *run) send(to int, i input) {
	if r.casts[to] != nil {
		r.way = append(r.way, message{to, i})
	}
}

// step lets one message come, and checks what a single worker promises.
func (r *run) step(t *testing.T, at int) {
	t.Helper()
	m := r.way[at]
	r.way = slices.Delete(r.way, at, at+1)
	r.taken = append(r.taken, m)
	for _, f := range m.call(r.casts[m.to]) {
		if slices.ContainsFunc(r.said[m.to], func(g api.Frame) bool { return f.Kind == g.Kind }) || f.Kind != fEcho && f.Kind != fReady {
			t.Fatalf("%v, origin %d: %v: %d says %v behind %v", r.cluster, r.origin, r.taken, m.to, show([]api.Frame{f}), show(r.said[m.to]))
		}
		r.said[m.to] = append(r.said[m.to], f)
		r.say(input{f.Kind, m.to, f.Text})
	}
	text, is := r.casts[m.to].Done()
	if r.isDone[m.to] && (!is || text != r.done[m.to]) {
		t.Fatalf("%v, origin %d: %v: %d had %q delivered, and has %q, %v", r.cluster, r.origin, r.taken, m.to, r.done[m.to], text, is)
	}
	r.done[m.to], r.isDone[m.to] = text, is
}

// drain lets all that is under way come, in an order.
func (r *run) drain(t *testing.T, o order) {
	t.Helper()
	for len(r.way) > 0 {
		r.step(t, o.next(r.way))
	}
}

// apart tells whether two correct workers have delivered different texts, and whether some have delivered one and some not.
func (r *run) apart() (texts, delivered bool) {
	for a := range r.n {
		for b := range r.n {
			if r.casts[a] == nil || r.casts[b] == nil {
				continue
			}
			texts = texts || r.isDone[a] && r.isDone[b] && r.done[a] != r.done[b]
			delivered = delivered || r.isDone[a] != r.isDone[b]
		}
	}
	return texts, delivered
}

// end checks what all workers together promise, once nothing is under way, and tells what was delivered.
func (r *run) end(t *testing.T, what string) string {
	t.Helper()
	if texts, delivered := r.apart(); texts || delivered {
		t.Fatalf("%s: %v, origin %d: %v: delivered %q, %v", what, r.cluster, r.origin, r.taken, r.done, r.isDone)
	}
	result := "nothing"
	for w := range r.n {
		if r.casts[w] == nil {
			continue
		}
		if r.casts[r.origin] != nil && (!r.isDone[w] || r.done[w] != r.text) {
			t.Fatalf("%s: %v, origin %d: %v: %d has delivered %q, %v", what, r.cluster, r.origin, r.taken, w, r.done[w], r.isDone[w])
		}
		if r.isDone[w] {
			result = r.done[w]
		}
	}
	return result
}

// order is one in which all that is under way comes: a number for each message, of which the least one is next.
type order struct {
	what string
	of   func(i int, m message) int
}

// next is where that stands of which the order has the least number.
func (o order) next(way []message) int {
	next, number := 0, 0
	for i, m := range way {
		if n := o.of(i, m); i == 0 || n < number {
			next, number = i, n
		}
	}
	return next
}

// orders are some of them; of those that are alike in an order, the first one that was sent comes first.
func orders(k cluster, r *rand.Rand) []order {
	all := []order{
		{"the first one first", func(i int, m message) int { return i }},
		{"the last one first", func(i int, m message) int { return -i }},
		{"inits first", func(i int, m message) int { return m.kind }},
		{"readies first", func(i int, m message) int { return -m.kind }},
		{"by receiver", func(i int, m message) int { return m.to }},
		{"by receiver, backwards", func(i int, m message) int { return -m.to }},
		{"by sender", func(i int, m message) int { return m.from }},
		{"by sender, backwards", func(i int, m message) int { return -m.from }},
		{"in circles", func(i int, m message) int { return (m.to + m.from) % k.n }},
		{"the greatest text first", func(i int, m message) int { return -len(m.text) }},
		{"at random", func(i int, m message) int { return r.Intn(1 << 20) }},
	}
	for w := range k.n {
		all = append(all, order{fmt.Sprintf("%d is last", w), func(i int, m message) int {
			if m.to == w {
				return 1
			}
			return 0
		}})
	}
	return all
}

// P14.4: if nobody deviates, all deliver what the origin says, in every order; each says an FEcho and an FReady of it.
func TestNobodyDeviates(t *testing.T) {
	chance := rand.New(rand.NewSource(6))
	for _, k := range clusters {
		for origin := range k.n {
			for _, o := range orders(k, chance) {
				for _, text := range []string{"x", ""} {
					r := runOf(t, k, nil, origin, text)
					r.drain(t, o)
					if got := r.end(t, o.what); got != text {
						t.Errorf("%v, origin %d: %s: got %q", k, origin, o.what, got)
					}
					for w := range k.n {
						said := slices.SortedFunc(slices.Values(r.said[w]), func(a, b api.Frame) int { return a.Kind - b.Kind })
						if !slices.Equal(said, append(echoes(text), readies(text)...)) || r.casts[w].Two() {
							t.Errorf("%v, origin %d: %s: %d says %v, and Two is %v", k, origin, o.what, w, show(said), r.casts[w].Two())
						}
					}
				}
			}
		}
	}
}

// P14.4: if up to f deviate by being silent, all others deliver what a correct origin says; and nothing, if the origin is silent.
func TestSilentWorkers(t *testing.T) {
	chance := rand.New(rand.NewSource(7))
	for _, k := range clusters {
		for set := range 1 << k.n {
			deviating := workersOf(set, k.n)
			if len(deviating) > k.f {
				continue
			}
			for origin := range k.n {
				want := "x"
				if slices.Contains(deviating, origin) {
					want = "nothing"
				}
				for _, o := range orders(k, chance) {
					r := runOf(t, k, deviating, origin, "x")
					r.drain(t, o)
					if got := r.end(t, o.what); got != want {
						t.Errorf("%v, origin %d, without %v: %s: got %q", k, origin, deviating, o.what, got)
					}
				}
			}
		}
	}
}

// workersOf are the workers whose bits are set.
func workersOf(set, n int) []int {
	var all []int
	for w := range n {
		if set>>w&1 == 1 {
			all = append(all, w)
		}
	}
	return all
}

// split lets all that deviate say one text to some workers and another one to the rest, by FEcho and FReady as they are asked for; the origin says so by FInit as well, if it deviates.
func (r *run) split(deviating []int, side int, isEcho, isReady, isReversed bool) {
	text := func(to, side int) string {
		if side>>to&1 == 1 {
			return "aa"
		}
		return "b"
	}
	for to := range r.n {
		if slices.Contains(deviating, r.origin) {
			r.send(to, ini(r.origin, text(to, side)))
		}
		for _, from := range deviating {
			if isEcho {
				r.send(to, echo(from, text(to, side)))
			}
			if isReady && isReversed {
				r.send(to, ready(from, text(to, ^side)))
			} else if isReady {
				r.send(to, ready(from, text(to, side)))
			}
		}
	}
}

// splitRuns counts the results of all runs in which so many workers deviate by a split, with each of the origins; end tells the result of one.
func splitRuns(t *testing.T, k cluster, deviating []int, origin int, end func(r *run, what string) string) map[string]int {
	results := map[string]int{}
	chance := rand.New(rand.NewSource(8))
	for side := range 1 << k.n {
		// The workers that deviate are on no side.
		if slices.ContainsFunc(deviating, func(w int) bool { return side>>w&1 == 1 }) {
			continue
		}
		for way := range 8 {
			for _, o := range orders(k, chance) {
				r := runOf(t, k, deviating, origin, "aa")
				r.split(deviating, side, way&1 == 0, way&2 == 0, way&4 == 0)
				r.drain(t, o)
				results[end(r, o.what)]++
			}
		}
	}
	return results
}

// P14.4: up to f workers say one text to some and another one to the others: whatever these do, they do it alike; and what a correct origin says is delivered.
func TestSplits(t *testing.T) {
	for _, x := range []struct {
		k         cluster
		deviating []int
	}{
		{four, []int{0}}, {four, []int{3}}, {cluster{5, 1, 4}, []int{2}}, {cluster{6, 1, 4}, []int{5}}, {cluster{7, 1, 5}, []int{0}}, {seven, []int{0, 4}},
	} {
		end := func(r *run, what string) string { return r.end(t, what) }
		results := splitRuns(t, x.k, x.deviating, x.deviating[0], end)
		if results["nothing"] == 0 || results["aa"] == 0 || results["b"] == 0 || len(results) != 3 {
			t.Errorf("the test is wrong: %v: %v", x, results)
		}
		results = splitRuns(t, x.k, x.deviating, 1, end)
		if results["aa"] == 0 || len(results) != 1 {
			t.Errorf("%v: got %v", x, results)
		}
	}
}

// P14.4 is for f workers alone: if one more deviates, there are runs that a broadcast cannot save, and that these tests would notice.
func TestOneMoreDeviates(t *testing.T) {
	for _, x := range []struct {
		k         cluster
		deviating []int
	}{{four, []int{0, 3}}, {seven, []int{0, 1, 6}}} {
		results := splitRuns(t, x.k, x.deviating, 0, func(r *run, what string) string {
			texts, delivered := r.apart()
			return fmt.Sprint(texts, delivered)
		})
		if results["true false"] == 0 || results["false true"] == 0 {
			t.Errorf("the test is wrong: %v: %v", x, results)
		}
	}
}

// P14.4: up to f workers say anything to anyone at any time, some messages come twice, and all others come at random or in some order.
func TestAnythingIsSaid(t *testing.T) {
	chance := rand.New(rand.NewSource(9))
	results := map[string]int{}
	for range 15000 {
		k := clusters[chance.Intn(len(clusters))]
		if chance.Intn(2) == 0 {
			k = []cluster{four, seven}[chance.Intn(2)]
		}
		deviating := chance.Perm(k.n)[:k.f-chance.Intn(k.f+1)/2]
		r := runOf(t, k, deviating, chance.Intn(k.n), "a")
		all := orders(k, chance)
		o := all[chance.Intn(len(all))]
		often := 1 + chance.Intn(8)
		for range 1 + chance.Intn(2) {
			r.sayAnything(chance, deviating, chance.Intn(6*k.n))
			for len(r.way) > 0 {
				at := chance.Intn(len(r.way))
				if chance.Intn(often) == 0 {
					at = o.next(r.way)
				}
				if chance.Intn(30) == 0 {
					r.way = append(r.way, r.way[at])
				}
				if chance.Intn(10) == 0 {
					r.sayAnything(chance, deviating, 1)
				}
				r.step(t, at)
			}
		}
		result := r.end(t, o.what)
		if slices.Contains(deviating, r.origin) {
			results[result]++
		}
	}
	for _, want := range []string{"nothing", "a", "b", ""} {
		if results[want] == 0 {
			t.Errorf("the test is wrong: %v", results)
		}
	}
}

// sayAnything lets those that deviate say so much to anyone: mostly echoes and readies of few texts, and inits if the origin is one of them.
func (r *run) sayAnything(chance *rand.Rand, deviating []int, n int) {
	if len(deviating) == 0 {
		return
	}
	for range n {
		i := input{fEcho + chance.Intn(2), deviating[chance.Intn(len(deviating))], []string{"a", "a", "b", "b", ""}[chance.Intn(5)]}
		if slices.Contains(deviating, r.origin) && chance.Intn(3) == 0 {
			i.kind, i.from = fInit, r.origin
		}
		if chance.Intn(40) == 0 {
			i.kind = ends[chance.Intn(len(ends))]
			if i.kind == fInit {
				i.kind = 0
			}
		}
		to := chance.Intn(r.n)
		r.send(to, i)
		// A worker that says the same to many is more likely to get somewhere.
		for k := range r.n {
			if k != to && chance.Intn(2) == 0 {
				r.send(k, i)
			}
		}
	}
}
