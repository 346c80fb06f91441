package order

import (
	"fmt"
	"math/rand"
	"slices"
	"strings"
	"testing"

	"garboard/api"
)

// message is a frame that is under way to a correct worker.
type message struct {
	to int
	*api.Frame
}

// String tells it as what that worker takes.
func (m message) String() string { return fmt.Sprintf("%d: %s", m.to, show([]api.Frame{*m.Frame})) }

// run is the orders of all workers of a cluster, of which some deviate: these have no order here, and what they say is made by the test.
//
// The From of a frame is always who sends it: that no worker takes another one's for it is the matter of layer 16.
type run struct {
	cluster
	orders [most]*Order

	// isTooMany is whether more than f deviate: nothing is promised then of what all together deliver.
	isTooMany bool

	// toSay and said are the texts of each correct worker: those that it has still to say, and those that it has.
	toSay, said [most][]string

	// told is what each correct worker has told already, without the texts: no kind comes twice of a broadcast.
	told map[api.Frame]bool

	// done are the texts that each correct worker has delivered of each worker.
	done [most][most][]string

	// way is what is under way, and early what reached a worker ahead of its broadcast being open there: as it is to reach it while that is open, it has to come again.
	way   []message
	early [most][]message
	taken []message
}

// String tells the last frames that were taken.
func (r *run) String() string {
	return fmt.Sprintf("%v: %d frames, the last of which %v", r.cluster, len(r.taken), r.taken[max(0, len(r.taken)-12):])
}

// runOf is a run of which these workers deviate; each correct one has these texts to say.
func runOf(t *testing.T, k cluster, deviating []int, texts func(w int) []string) *run {
	t.Helper()
	r := &run{cluster: k, isTooMany: len(deviating) > k.f, told: map[api.Frame]bool{}}
	for w := range k.n {
		if !slices.Contains(deviating, w) {
			r.orders[w], _ = orderOf(t, k, w)
			r.toSay[w] = texts(w)
		}
	}
	for w := range k.n {
		r.sayOn(t, w)
	}
	return r
}

// sayOn lets a correct worker say as much as it has to and can.
func (r *run) sayOn(t *testing.T, w int) {
	t.Helper()
	for len(r.toSay[w]) > 0 && r.orders[w] != nil {
		f, err := r.orders[w].Say(r.toSay[w][0])
		if err == full {
			return
		}
		if f != frame(fInit, w, w, len(r.said[w]), r.toSay[w][0]) || err != 0 {
			t.Fatalf("%v: %d says %v, %d", r, w, show([]api.Frame{f}), err)
		}
		r.said[w], r.toSay[w] = append(r.said[w], r.toSay[w][0]), r.toSay[w][1:]
		r.sendAll(f)
	}
}

// sendAll puts under way what a worker sends to all correct ones, itself among them.
func (r *run) sendAll(f api.Frame) {
	for to := range r.n {
		r.send(to, f)
	}
}

// send puts a frame under way to one worker, if that is a correct one.
func (r *run) send(to int, f api.Frame) {
	if r.orders[to] != nil {
		r.way = append(r.way, message{to, &f})
	}
}

// step lets one message come, and checks what a single worker promises.
func (r *run) step(t *testing.T, at int) {
	t.Helper()
	m := r.way[at]
	r.way = slices.Delete(r.way, at, at+1)
	o := r.orders[m.to]
	if m.Origin >= 0 && m.Origin < r.n && m.Seq > len(r.done[m.to][m.Origin])+window-1 {
		r.early[m.to] = append(r.early[m.to], m)
		return
	}
	r.taken = append(r.taken, m)
	tell, done := o.Take(*m.Frame)
	for _, f := range tell {
		once := frame(f.Kind, m.to, m.Origin, m.Seq, "")
		if f != frame(f.Kind, m.to, m.Origin, m.Seq, f.Text) || r.told[once] {
			t.Fatalf("%v: tells %v", r, show(tell))
		}
		r.told[once] = true
		r.sendAll(f)
	}
	for _, f := range done {
		// P15.5: the numbers are 0, 1, 2 and so on.
		if f != row(m.Origin, len(r.done[m.to][m.Origin]), f.Text)[0] {
			t.Fatalf("%v: delivers %v behind %d", r, show(done), len(r.done[m.to][m.Origin]))
		}
		r.done[m.to][m.Origin] = append(r.done[m.to][m.Origin], f.Text)
	}
	if len(done) > 0 {
		r.way = append(r.way, r.early[m.to]...)
		r.early[m.to] = nil
		r.sayOn(t, m.to)
		if texts, _ := r.apart(); texts && !r.isTooMany {
			t.Fatalf("%v: delivered %q", r, r.done)
		}
	}
}

// apart tells whether two correct workers have delivered different texts of an origin at the same number, and whether one has delivered more texts of an origin than another one.
func (r *run) apart() (texts, numbers bool) {
	for a := range r.n {
		for b := range r.n {
			if r.orders[a] == nil || r.orders[b] == nil {
				continue
			}
			for origin := range r.n {
				of, than := r.done[a][origin], r.done[b][origin]
				n := min(len(of), len(than))
				texts = texts || !slices.Equal(of[:n], than[:n])
				numbers = numbers || len(of) > len(than)
			}
		}
	}
	return texts, numbers
}

// drain lets all that is under way come, in an order.
func (r *run) drain(t *testing.T, o turns) {
	t.Helper()
	for len(r.way) > 0 {
		r.step(t, o.next(r.way))
	}
}

// end checks what all workers together promise, once nothing is under way, and tells how many texts were delivered of each origin, and of which origins a correct worker observed two.
func (r *run) end(t *testing.T, what string) (delivered [most]int, two [most]bool) {
	t.Helper()
	if texts, numbers := r.apart(); texts || numbers {
		t.Fatalf("%s: %v: delivered %q", what, r, r.done)
	}
	for w := range r.n {
		if r.orders[w] == nil {
			continue
		}
		for _, m := range r.early[w] {
			if r.orders[m.From] != nil {
				t.Fatalf("%s: %v: what a correct worker sends could not be taken: %v", what, r, m)
			}
		}
		for origin := range r.n {
			if len(r.done[w][origin]) != r.orders[w].Next(origin) {
				t.Fatalf("%s: %v: Next(%d) of %d is %d, behind %d", what, r, origin, w, r.orders[w].Next(origin), len(r.done[w][origin]))
			}
			if isCorrect := r.orders[origin] != nil; isCorrect && (!slices.Equal(r.done[w][origin], r.said[origin]) || len(r.toSay[origin]) != 0 || r.orders[w].Two(origin)) {
				t.Fatalf("%s: %v: %d says %q, and %d delivers %q, Two %v", what, r, origin, r.said[origin], w, r.done[w][origin], r.orders[w].Two(origin))
			}
			delivered[origin] = len(r.done[w][origin])
			two[origin] = two[origin] || r.orders[w].Two(origin)
		}
	}
	return delivered, two
}

// turns is an order in which all that is under way comes: a number for each message, of which the least one is next.
type turns struct {
	what string
	of   func(i int, m message) int
}

// next is where that stands of which the order has the least number.
func (o turns) next(way []message) int {
	next, number := 0, 0
	for i, m := range way {
		if n := o.of(i, m); i == 0 || n < number {
			next, number = i, n
		}
	}
	return next
}

// allTurns are some of them; of those that are alike in an order, the first one that was sent comes first.
func allTurns(k cluster, r *rand.Rand) []turns {
	all := []turns{
		{"the first one first", func(i int, m message) int { return i }},
		{"the last one first", func(i int, m message) int { return -i }},
		{"inits first", func(i int, m message) int { return m.Kind }},
		{"readies first", func(i int, m message) int { return -m.Kind }},
		{"by receiver", func(i int, m message) int { return m.to }},
		{"by receiver, backwards", func(i int, m message) int { return -m.to }},
		{"by sender, backwards", func(i int, m message) int { return -m.From }},
		{"the last number first", func(i int, m message) int { return -m.Seq }},
		{"the last number first, by receiver", func(i int, m message) int { return 1000*m.to - m.Seq }},
		{"by origin, the last number first", func(i int, m message) int { return 1000*m.Origin - m.Seq }},
		{"in circles", func(i int, m message) int { return (m.to + m.From + m.Seq) % k.n }},
		{"at random", func(i int, m message) int { return r.Intn(1 << 20) }},
	}
	for _, w := range []int{0, k.n - 1} {
		all = append(all, turns{fmt.Sprintf("%d is last", w), func(i int, m message) int {
			if m.to == w {
				return 1
			}
			return 0
		}})
	}
	return all
}

// textsOf is what a worker says: so many texts, of which some are alike.
func textsOf(n int) func(w int) []string {
	return func(w int) []string {
		var all []string
		for i := range n {
			all = append(all, []string{"", fmt.Sprint("of ", w), fmt.Sprint("of ", w, ", ", i)}[i%3])
		}
		return all
	}
}

// P15.5: if nobody deviates, all deliver what each one says, in every order.
func TestNobodyDeviates(t *testing.T) {
	chance := rand.New(rand.NewSource(6))
	for _, k := range clusters {
		n := 4
		if k.n > 4 {
			n = 2
		}
		for _, o := range allTurns(k, chance) {
			r := runOf(t, k, nil, textsOf(n))
			r.drain(t, o)
			if delivered, _ := r.end(t, o.what); delivered != wanted(k, nil, n) {
				t.Errorf("%v: %s: got %v", k, o.what, delivered)
			}
		}
	}
}

// wanted is that so many texts are delivered of each worker, but of those that deviate.
func wanted(k cluster, deviating []int, n int) [most]int {
	var all [most]int
	for w := range k.n {
		if !slices.Contains(deviating, w) {
			all[w] = n
		}
	}
	return all
}

// P15.5: workers that say more than may be open at once: the numbers go on behind those that are finished, and all is delivered; also if one of them deviates, and says anything.
func TestMoreThanAreOpen(t *testing.T) {
	chance := rand.New(rand.NewSource(7))
	for _, x := range []struct {
		k         cluster
		deviating []int
		n         int
	}{{one, nil, 100}, {cluster{2, 0}, nil, 80}, {four, nil, 40}, {four, []int{1}, 40}} {
		for _, o := range allTurns(x.k, chance) {
			r := runOf(t, x.k, x.deviating, textsOf(x.n))
			for w := range x.k.n {
				if r.orders[w] != nil && len(r.said[w]) != window {
					t.Errorf("%v: %d says %d at once", x.k, w, len(r.said[w]))
				}
			}
			r.sayAnything(chance, x.deviating, 100)
			r.drain(t, o)
			delivered, _ := r.end(t, o.what)
			for w := range x.k.n {
				if !slices.Contains(x.deviating, w) && delivered[w] != x.n {
					t.Errorf("%v: %s: got %v", x, o.what, delivered)
				}
			}
		}
	}
}

// P15.5: a worker that deviates by sending what it says to some and nothing to one of them has it delivered by all of them, that one too.
func TestOneIsLeftOut(t *testing.T) {
	chance := rand.New(rand.NewSource(11))
	for _, o := range allTurns(four, chance) {
		r := runOf(t, four, []int{0}, textsOf(0))
		for seq := range 50 {
			for to := 1; to < 3; to++ {
				r.send(to, frame(fInit, 0, 0, seq, fmt.Sprint(seq)))
				r.send(to, frame(fEcho, 0, 0, seq, fmt.Sprint(seq)))
			}
		}
		r.drain(t, o)
		if delivered, _ := r.end(t, o.what); delivered != [most]int{50} {
			t.Errorf("%s: got %v", o.what, delivered)
		}
	}
}

// P15.5: if up to f deviate by being silent, all others deliver what each one of them says.
func TestSilentWorkers(t *testing.T) {
	chance := rand.New(rand.NewSource(8))
	for _, k := range clusters {
		for set := range 1 << k.n {
			deviating := workersOf(set, k.n)
			if len(deviating) == 0 || len(deviating) > k.f {
				continue
			}
			for _, o := range allTurns(k, chance) {
				r := runOf(t, k, deviating, textsOf(1+8/(k.n*len(deviating))))
				r.drain(t, o)
				if delivered, _ := r.end(t, o.what); delivered != wanted(k, deviating, 1+8/(k.n*len(deviating))) {
					t.Errorf("%v, without %v: %s: got %v", k, deviating, o.what, delivered)
				}
			}
		}
	}
}

// workersOf are the workers whose bits are set.
func workersOf(set, n int) []int {
	var all []int
	for w := range n {
		if set>>w&1 == 1 {
			all = append(all, w)
		}
	}
	return all
}

// split lets all that deviate say one text to some workers and another one to the rest, at the numbers 0 and 1 of an origin: by FInit if they are the origin, and by FEcho and FReady as they are asked for.
func (r *run) split(deviating []int, origin, side int, isEcho, isReady, isReversed bool) {
	for to := range r.n {
		for seq := range 2 {
			text := func(isOther bool) string {
				if (side>>to&1 == 1) != isOther {
					return "aa"
				}
				return "b"
			}
			for _, from := range deviating {
				if from == origin {
					r.send(to, frame(fInit, from, origin, seq, text(seq == 1)))
				}
				if isEcho {
					r.send(to, frame(fEcho, from, origin, seq, text(seq == 1)))
				}
				if isReady {
					r.send(to, frame(fReady, from, origin, seq, text((seq == 1) != isReversed)))
				}
			}
		}
	}
}

// splitRuns counts the results of runs in which so many workers deviate by a split, as end tells them; a correct origin says two texts.
func splitRuns(t *testing.T, k cluster, deviating []int, origin int, end func(r *run, what string) string) map[string]int {
	results := map[string]int{}
	chance := rand.New(rand.NewSource(9))
	for side := range 1 << k.n {
		// The workers that deviate are on no side.
		if slices.ContainsFunc(deviating, func(w int) bool { return side>>w&1 == 1 }) {
			continue
		}
		for way := range 8 {
			for _, o := range allTurns(k, chance) {
				r := runOf(t, k, deviating, func(w int) []string {
					if w == origin {
						return []string{"aa", "b"}
					}
					return nil
				})
				r.split(deviating, origin, side, way&1 == 0, way&2 == 0, way&4 == 0)
				r.drain(t, o)
				results[end(r, o.what)]++
			}
		}
	}
	return results
}

// P15.5: up to f workers say one text to some and another one to the others: whatever these deliver, they deliver it alike; and what a correct origin says is delivered.
func TestSplits(t *testing.T) {
	for _, x := range []struct {
		k         cluster
		deviating []int
	}{
		{four, []int{0}}, {four, []int{3}}, {cluster{5, 1}, []int{2}}, {cluster{7, 1}, []int{0}}, {seven, []int{0, 4}},
	} {
		for _, origin := range []int{x.deviating[0], 1} {
			results := splitRuns(t, x.k, x.deviating, origin, func(r *run, what string) string {
				r.end(t, what)
				return fmt.Sprintf("%q", r.done[1][origin])
			})
			want := []string{`[]`, `["aa"]`, `["b"]`, `["aa" "b"]`, `["b" "aa"]`}
			if origin == 1 {
				want = []string{`["aa" "b"]`}
			}
			for result := range results {
				if !slices.Contains(want, result) {
					t.Errorf("%v, origin %d: got %v", x, origin, results)
				}
			}
			if results[`["aa" "b"]`] == 0 || origin != 1 && results[`[]`] == 0 {
				t.Errorf("the test is wrong: %v, origin %d: %v", x, origin, results)
			}
		}
	}
}

// P15.5 is for f workers alone: if one more deviates, there are runs in which correct workers deliver different texts, and runs in which only some deliver one, that no order can save, and that these tests would notice.
func TestOneMoreDeviates(t *testing.T) {
	for _, x := range []struct {
		k         cluster
		deviating []int
	}{{four, []int{0, 3}}, {seven, []int{0, 1, 6}}} {
		results := splitRuns(t, x.k, x.deviating, 0, func(r *run, what string) string {
			texts, numbers := r.apart()
			return fmt.Sprint(texts, numbers)
		})
		if results["true false"] == 0 || results["false true"] == 0 {
			t.Errorf("the test is wrong: %v: %v", x, results)
		}
	}
}

// P15.5: up to f workers say anything to anyone at any time, also ahead of its being open and behind its end, some messages come twice, and all others come at random or in some order.
func TestAnythingIsSaid(t *testing.T) {
	chance := rand.New(rand.NewSource(10))
	delivered, two, early := map[int]int{}, 0, 0
	for range 4000 {
		k := clusters[chance.Intn(len(clusters))]
		if chance.Intn(2) == 0 {
			k = []cluster{four, seven}[chance.Intn(2)]
		}
		deviating := chance.Perm(k.n)[:k.f-chance.Intn(k.f+1)/2]
		r := runOf(t, k, deviating, func(w int) []string { return textsOf(chance.Intn(3))(w) })
		all := allTurns(k, chance)
		o := all[chance.Intn(len(all))]
		often := 1 + chance.Intn(8)
		r.sayAnything(chance, deviating, chance.Intn(8*k.n))
		for len(r.way) > 0 {
			at := chance.Intn(len(r.way))
			if chance.Intn(often) == 0 {
				at = o.next(r.way)
			}
			if chance.Intn(30) == 0 {
				r.way = append(r.way, r.way[at])
			}
			if chance.Intn(15) == 0 {
				r.sayAnything(chance, deviating, 1)
			}
			r.step(t, at)
		}
		counts, twos := r.end(t, o.what)
		for _, w := range deviating {
			delivered[counts[w]]++
			if twos[w] {
				two++
			}
		}
		for _, l := range r.early {
			early += len(l)
		}
	}
	for n := range 4 {
		if delivered[n] == 0 {
			t.Errorf("the test is wrong: %v", delivered)
		}
	}
	if two < 100 || early < 100 {
		t.Errorf("the test is wrong: two texts are observed of %d, and %d come too early", two, early)
	}
}

// sayAnything lets those that deviate say so much to anyone: mostly of few texts and numbers, and of the origins that deviate themselves.
func (r *run) sayAnything(chance *rand.Rand, deviating []int, n int) {
	if len(deviating) == 0 {
		return
	}
	for range n {
		from := deviating[chance.Intn(len(deviating))]
		f := frame(kinds[chance.Intn(3)], from, deviating[chance.Intn(len(deviating))], []int{0, 0, 0, 1, 1, 2}[chance.Intn(6)], []string{"a", "a", "a", "b", ""}[chance.Intn(5)])
		switch chance.Intn(40) {
		case 0:
			f.Kind = ends[chance.Intn(len(ends))]
		case 1:
			f.Seq = ends[chance.Intn(len(ends))]
		case 2:
			f.Text = strings.Repeat("a", longest+chance.Intn(2))
		case 3:
			f.Origin = ends[chance.Intn(len(ends))]
		case 4, 5, 6, 7:
			f.Origin = chance.Intn(r.n)
		}
		to := chance.Intn(r.n)
		r.send(to, f)
		// A worker that says the same to many is more likely to get somewhere.
		for k := range r.n {
			if k != to && chance.Intn(4) > 0 {
				r.send(k, f)
			}
		}
	}
}
