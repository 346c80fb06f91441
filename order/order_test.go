package order

import (
	"fmt"
	"maps"
	"math"
	"math/rand"
	"slices"
	"strings"
	"sync"
	"testing"
	"unsafe"

	"garboard/api"
	"garboard/bracha"
)

// The limits, the kinds and the errors, by their numbers, so that no test leans on the constants.
const (
	most    = 7
	window  = 32
	longest = 400

	fInit   = 1
	fEcho   = 2
	fReady  = 3
	fAccuse = 4

	arg  = api.Errno(1)
	full = api.Errno(10)
)

// ends are numbers around those of workers, of kinds and of what is open, and the type's own ends.
var ends = []int{math.MinInt, math.MinInt + 1, -33, -32, -8, -7, -2, -1, 0, 1, 2, 3, 4, 5, 6, 7, 8, 9, 30, 31, 32, 33, 64, 256, 257, math.MaxInt - 32, math.MaxInt - 31, math.MaxInt - 1, math.MaxInt}

// kinds are all that a broadcast takes.
var kinds = []int{fInit, fEcho, fReady}

// otherKinds are some of those that it does not.
var otherKinds = []int{0, -1, fAccuse, 5, 6, 7, 8, 256 + fInit, 256 + fEcho, 1<<32 + fReady, -fInit, -fEcho, -fReady, math.MinInt, math.MaxInt}

// cluster is an n and an f of which there is an order.
type cluster struct{ n, f int }

// clusters are all of these, written out.
var clusters = []cluster{
	{1, 0}, {2, 0}, {3, 0}, {4, 0}, {5, 0}, {6, 0}, {7, 0},
	{4, 1}, {5, 1}, {6, 1}, {7, 1},
	{7, 2},
}

// one is the cluster of the chapter's example, four that of most tests, and seven the greatest one.
var one, four, seven = cluster{1, 0}, cluster{4, 1}, cluster{7, 2}

// texts that differ by little.
var texts = []string{"", "\x00", "A", "a", "a\x00", "aa", "b", "x", "y", "\x7f", "\x80", "\xff", "\xff\xff"}

// frame is one with these fields alone.
func frame(kind, from, origin, seq int, text string) api.Frame {
	return api.Frame{Kind: kind, From: from, Origin: origin, Seq: seq, Text: text}
}

// only is what holds that frame alone.
func only(kind, from, origin, seq int, text string) []api.Frame {
	return []api.Frame{frame(kind, from, origin, seq, text)}
}

// row is what delivers these texts of an origin, the first of which has that number.
func row(origin, seq int, texts ...string) []api.Frame {
	var all []api.Frame
	for i, text := range texts {
		all = append(all, api.Frame{Origin: origin, Seq: seq + i, Text: text})
	}
	return all
}

// show tells frames with their texts as these stand in a program; the beginning alone of long ones.
func show(l []api.Frame) string {
	all := []string{}
	for _, f := range l {
		more := ""
		if f != frame(f.Kind, f.From, f.Origin, f.Seq, f.Text) {
			more = fmt.Sprintf(" and To %d, Tag %x", f.To, f.Tag)
		}
		all = append(all, fmt.Sprintf("{kind %d from %d: origin %d at %d: %.20q%s}", f.Kind, f.From, f.Origin, f.Seq, f.Text, more))
	}
	return fmt.Sprint(all)
}

// id identifies a broadcast.
type id struct{ origin, seq int }

// plain is an order by the document's words: all broadcasts of which something was taken, finished ones among them, with all texts of their FInits, and all that was delivered.
type plain struct {
	cluster
	me    int
	said  int
	casts map[id]*bracha.Cast
	inits map[id][]string
	done  [most][]string
	taken []api.Frame
}

// isWorker tells whether that is one of 0 to n - 1.
func (m *plain) isWorker(k int) bool { return k >= 0 && k <= m.n-1 }

// wantNext is Next by the words of P15.1.
func (m *plain) wantNext(origin int) int {
	if !m.isWorker(origin) {
		return 0
	}
	return len(m.done[origin])
}

// wantTwo is Two by the words of P15.4.
func (m *plain) wantTwo(origin int) bool {
	for b, l := range m.inits {
		if b.origin == origin && slices.ContainsFunc(l, func(text string) bool { return text != l[0] }) {
			return true
		}
	}
	return false
}

// isOpen tells whether the numbers Next to Next + 31 have a broadcast's Seq among them.
func (m *plain) isOpen(b id) bool {
	for i := range window {
		if b.seq == m.wantNext(b.origin)+i {
			return true
		}
	}
	return false
}

// wantSay is Say by the words of P15.2.
func (m *plain) wantSay(text string) (api.Frame, api.Errno) {
	if len(text) > longest {
		return api.Frame{}, arg
	}
	if m.said == m.wantNext(m.me)+window {
		return api.Frame{}, full
	}
	m.said++
	return frame(fInit, m.me, m.me, m.said-1, text), 0
}

// wantTake takes it as Take should, by the words of P15.3.
func (m *plain) wantTake(f api.Frame) (tell, done []api.Frame) {
	m.taken = append(m.taken, f)
	switch {
	case !m.isWorker(f.From), !m.isWorker(f.Origin), f.Kind == fInit && f.From != f.Origin, !slices.Contains(kinds, f.Kind), len(f.Text) > longest, !m.isOpen(id{f.Origin, f.Seq}):
		return nil, nil
	}
	b := id{f.Origin, f.Seq}
	if m.casts[b] == nil {
		m.casts[b], _ = bracha.New(m.n, m.f)
	}
	for _, g := range m.casts[b].Take(f.Kind, f.From, f.Text) {
		tell = append(tell, frame(g.Kind, m.me, f.Origin, f.Seq, g.Text))
	}
	if f.Kind == fInit {
		m.inits[b] = append(m.inits[b], f.Text)
	}
	for {
		seq := len(m.done[f.Origin])
		c := m.casts[id{f.Origin, seq}]
		if c == nil {
			return tell, done
		}
		text, is := c.Done()
		if !is {
			return tell, done
		}
		done = append(done, row(f.Origin, seq, text)...)
		m.done[f.Origin] = append(m.done[f.Origin], text)
	}
}

// String tells what it is of, and the last frames that were taken.
func (m *plain) String() string {
	return fmt.Sprintf("%v, me %d: %d frames, the last of which %s", m.cluster, m.me, len(m.taken), show(m.taken[max(0, len(m.taken)-12):]))
}

// check holds what an order tells, and which broadcasts it keeps, against m.
func check(t *testing.T, what string, o *Order, m *plain) {
	t.Helper()
	for _, origin := range ends {
		if got, want := o.Next(origin), m.wantNext(origin); got != want {
			t.Errorf("%s: %v: Next(%d): got %d, want %d", what, m, origin, got, want)
		}
		if got, want := o.Two(origin), m.wantTwo(origin); got != want {
			t.Errorf("%s: %v: Two(%d): got %v", what, m, origin, got)
		}
	}
	kept := 0
	for origin, l := range o.casts {
		for seq := range l {
			kept++
			if b := (id{origin, seq}); m.casts[b] == nil || !m.isOpen(b) {
				t.Errorf("%s: %v: a broadcast of %d at %d is kept", what, m, origin, seq)
			}
		}
	}
	if kept > window*m.n {
		t.Errorf("%s: %v: %d broadcasts are kept", what, m, kept)
	}
}

// orderOf is an order that has received nothing, and what it is held against.
func orderOf(t *testing.T, k cluster, me int) (*Order, *plain) {
	t.Helper()
	o, err := New(k.n, k.f, me)
	if err != 0 || o == nil {
		t.Fatalf("New(%d, %d, %d): got %v, %d", k.n, k.f, me, o, err)
	}
	return o, &plain{cluster: k, me: me, casts: map[id]*bracha.Cast{}, inits: map[id][]string{}}
}

// say says a text, as the words have it, and returns the frame.
func say(t *testing.T, what string, o *Order, m *plain, text string) (api.Frame, api.Errno) {
	t.Helper()
	want, wantErr := m.wantSay(text)
	got, err := o.Say(text)
	if got != want || err != wantErr {
		t.Errorf("%s: %v: Say: got %v, %d, want %v, %d", what, m, show([]api.Frame{got}), err, show([]api.Frame{want}), wantErr)
	}
	return got, err
}

// takeAny hands a frame to the order and to what it is held against, and returns what is expected.
func takeAny(t *testing.T, what string, o *Order, m *plain, f api.Frame) (tell, done []api.Frame) {
	t.Helper()
	wantTell, wantDone := m.wantTake(f)
	tell, done = o.Take(f)
	if !slices.Equal(tell, wantTell) {
		t.Errorf("%s: %v: tell: got %v, want %v", what, m, show(tell), show(wantTell))
	}
	if !slices.Equal(done, wantDone) {
		t.Errorf("%s: %v: done: got %v, want %v", what, m, show(done), show(wantDone))
	}
	return wantTell, wantDone
}

// take is takeAny of which what is expected is written out.
func take(t *testing.T, what string, o *Order, m *plain, f api.Frame, tell, done []api.Frame) {
	t.Helper()
	gotTell, gotDone := takeAny(t, what, o, m, f)
	if !slices.Equal(gotTell, tell) || !slices.Equal(gotDone, done) {
		t.Fatalf("%s: the test is wrong: %v: %v, %v, not %v, %v", what, m, show(gotTell), show(gotDone), show(tell), show(done))
	}
	check(t, what, o, m)
}

// ignored hands an order a frame that leads to nothing and changes nothing, not even behind its copies.
func ignored(t *testing.T, what string, o *Order, m *plain, f api.Frame) {
	t.Helper()
	for range 2 {
		take(t, what, o, m, f, nil, nil)
	}
}

// told holds what an order tells of an origin against what is written out.
func told(t *testing.T, what string, o *Order, origin, next int, two bool) {
	t.Helper()
	if got := o.Next(origin); got != next {
		t.Errorf("%s: Next(%d): got %d, want %d", what, origin, got, next)
	}
	if got := o.Two(origin); got != two {
		t.Errorf("%s: Two(%d): got %v", what, origin, got)
	}
}

// readies lets enough workers be ready for a text that nobody was ready for yet, so that its broadcast has it delivered; the last call returns done.
func readies(t *testing.T, what string, o *Order, m *plain, origin, seq int, text string, done []api.Frame) {
	t.Helper()
	for from := range 2*m.f + 1 {
		var tell, last []api.Frame
		if from == m.f {
			tell = only(fReady, m.me, origin, seq, text)
		}
		if from == 2*m.f {
			last = done
		}
		take(t, what, o, m, frame(fReady, from, origin, seq, text), tell, last)
	}
}

// through lets a whole broadcast come, of which nothing was taken yet; the last call returns done.
func through(t *testing.T, what string, o *Order, m *plain, origin, seq int, text string, done []api.Frame) {
	t.Helper()
	take(t, what, o, m, frame(fInit, origin, origin, seq, text), only(fEcho, m.me, origin, seq, text), nil)
	quorum := (m.n+m.f)/2 + 1
	for from := range m.n {
		var tell []api.Frame
		if from == quorum-1 {
			tell = only(fReady, m.me, origin, seq, text)
		}
		take(t, what, o, m, frame(fEcho, from, origin, seq, text), tell, nil)
	}
	for from := range 2*m.f + 1 {
		var last []api.Frame
		if from == 2*m.f {
			last = done
		}
		take(t, what, o, m, frame(fReady, from, origin, seq, text), nil, last)
	}
}

// P15.2, P15.3: the chapter's example, step by step.
func TestExample(t *testing.T) {
	o, m := orderOf(t, one, 0)
	f, err := say(t, "said", o, m, "x")
	if f != frame(fInit, 0, 0, 0, "x") || err != 0 {
		t.Errorf("got %v, %d", f, err)
	}
	take(t, "the frame", o, m, f, only(fEcho, 0, 0, 0, "x"), nil)
	told(t, "the frame", o, 0, 0, false)
	take(t, "its echo", o, m, frame(fEcho, 0, 0, 0, "x"), only(fReady, 0, 0, 0, "x"), nil)
	told(t, "its echo", o, 0, 0, false)
	take(t, "its ready", o, m, frame(fReady, 0, 0, 0, "x"), nil, row(0, 0, "x"))
	told(t, "its ready", o, 0, 1, false)
}

// P15.3: an example of the whole: four workers, f 1: three readies deliver a text.
func TestThreeReadies(t *testing.T) {
	o, m := orderOf(t, four, 2)
	take(t, "a ready", o, m, frame(fReady, 3, 1, 0, "x"), nil, nil)
	take(t, "two readies", o, m, frame(fReady, 1, 1, 0, "x"), only(fReady, 2, 1, 0, "x"), nil)
	told(t, "two readies", o, 1, 0, false)
	take(t, "three readies", o, m, frame(fReady, 0, 1, 0, "x"), nil, row(1, 0, "x"))
	told(t, "three readies", o, 1, 1, false)
}

// P15.1, R1: each n, f and me about the limits, written out; beside the error there is no order.
func TestNew(t *testing.T) {
	cases := []struct {
		n, f, me int
		want     api.Errno
	}{
		{-1, 0, 0, arg}, {0, 0, 0, arg}, {1, 0, 0, 0}, {2, 0, 0, 0}, {3, 0, 0, 0}, {4, 0, 0, 0}, {5, 0, 0, 0}, {6, 0, 0, 0}, {7, 0, 0, 0}, {8, 0, 0, arg}, {9, 0, 0, arg},
		{-1, -1, 0, arg}, {0, -1, 0, arg}, {1, -1, 0, arg}, {4, -1, 0, arg}, {7, -1, 0, arg}, {7, -2, 0, arg}, {8, -1, 0, arg},
		{1, 1, 0, arg}, {2, 1, 0, arg}, {3, 1, 0, arg}, {4, 1, 0, 0}, {5, 1, 0, 0}, {6, 1, 0, 0}, {7, 1, 0, 0}, {8, 1, 0, arg},
		{4, 2, 0, arg}, {5, 2, 0, arg}, {6, 2, 0, arg}, {7, 2, 0, 0}, {8, 2, 0, arg}, {7, 3, 0, arg}, {8, 3, 0, arg}, {9, 3, 0, arg}, {10, 3, 0, arg},
		{math.MaxInt, 0, 0, arg}, {math.MinInt, 0, 0, arg}, {7, math.MaxInt, 0, arg}, {7, math.MinInt, 0, arg}, {math.MaxInt, math.MaxInt, math.MaxInt, arg}, {math.MinInt, math.MinInt, math.MinInt, arg},

		{1, 0, -1, arg}, {1, 0, 1, arg}, {2, 0, -1, arg}, {2, 0, 1, 0}, {2, 0, 2, arg},
		{4, 1, math.MinInt, arg}, {4, 1, -2, arg}, {4, 1, -1, arg}, {4, 1, 0, 0}, {4, 1, 3, 0}, {4, 1, 4, arg}, {4, 1, 5, arg}, {4, 1, 6, arg}, {4, 1, 7, arg}, {4, 1, math.MaxInt, arg},
		{7, 2, -1, arg}, {7, 2, 5, 0}, {7, 2, 6, 0}, {7, 2, 7, arg}, {7, 2, 8, arg}, {7, 2, 256, arg},
		{0, 0, -1, arg}, {8, 0, 7, arg}, {8, 0, 8, arg}, {8, 0, -1, arg}, {4, 2, -1, arg}, {4, 2, 3, arg}, {4, 2, 4, arg},
	}
	for _, c := range cases {
		if got, err := New(c.n, c.f, c.me); err != c.want || (got != nil) != (c.want == 0) {
			t.Errorf("New(%d, %d, %d): got %v, %d, want %d", c.n, c.f, c.me, got, err, c.want)
		}
	}
}

// P15.1: any n, f and me by the promise's words: the error is that of bracha.New if there is one.
func TestNewOfAny(t *testing.T) {
	for _, n := range ends {
		for _, f := range ends {
			isOne := slices.Contains(clusters, cluster{n, f})
			_, ofCast := bracha.New(n, f)
			if isOne != (ofCast == 0) {
				t.Errorf("the test is wrong: %d, %d: %d", n, f, ofCast)
			}
			for _, me := range ends {
				want := ofCast
				if isOne && (me < 0 || me >= n) {
					want = arg
				}
				if o, err := New(n, f, me); err != want || (o != nil) != (want == 0) {
					t.Errorf("New(%d, %d, %d): got %v, %d, want %d", n, f, me, o, err, want)
				}
			}
		}
	}
}

// P15.1, P15.4: nothing of a new order has been delivered or observed, of any origin; and there is nothing of what is no worker.
func TestNewHasNothing(t *testing.T) {
	for _, k := range clusters {
		for me := range k.n {
			o, m := orderOf(t, k, me)
			for range 2 {
				for origin := range k.n {
					told(t, "new", o, origin, 0, false)
				}
				for _, origin := range []int{-1, k.n, k.n + 1, most, most + 1, math.MinInt, math.MaxInt} {
					told(t, "no worker", o, origin, 0, false)
				}
				check(t, "new", o, m)
			}
		}
	}
}

// P15.1, P15.4: what is no worker has no number and no texts, also where all workers have: not those of another worker either.
func TestNoWorker(t *testing.T) {
	for _, k := range clusters {
		o, m := orderOf(t, k, k.n-1)
		for origin := range k.n {
			take(t, "two texts", o, m, frame(fInit, origin, origin, 0, "x"), only(fEcho, k.n-1, origin, 0, "x"), nil)
			take(t, "two texts", o, m, frame(fInit, origin, origin, 0, "y"), nil, nil)
			readies(t, "delivered", o, m, origin, 0, "x", row(origin, 0, "x"))
			told(t, "delivered", o, origin, 1, true)
		}
		for _, origin := range []int{math.MinInt, -k.n, -1, k.n, k.n + 1, most, most + 1, 256, math.MaxInt} {
			told(t, "no worker", o, origin, 0, false)
		}
	}
}

// P15.2: texts of 0, 1, 399, 400 and more bytes; one that is too long does not count, and bytes are counted, not letters.
func TestSayOfLengths(t *testing.T) {
	cases := []struct {
		text string
		want api.Errno
	}{
		{"", 0}, {strings.Repeat("x", longest+1), arg}, {"x", 0}, {strings.Repeat("x", longest), 0}, {strings.Repeat("y", longest-1), 0}, {strings.Repeat("\xff", longest), 0},
		{strings.Repeat("x", longest+2), arg}, {strings.Repeat("\xff", longest+1), arg}, {strings.Repeat("\u00e9", longest/2), 0}, {strings.Repeat("\u00e9", longest/2+1), arg}, {strings.Repeat("\x00", longest+1), arg},
		{strings.Repeat("x", 1<<20), arg}, {"\x00", 0}, {"", 0},
	}
	o, m := orderOf(t, four, 1)
	seq := 0
	for _, c := range cases {
		want := api.Frame{}
		if c.want == 0 {
			want = frame(fInit, 1, 1, seq, c.text)
			seq++
		}
		if got, err := say(t, "a length", o, m, c.text); got != want || err != c.want {
			t.Errorf("Say of %d bytes: got %v, %d, want %d", len(c.text), show([]api.Frame{got}), err, c.want)
		}
	}
}

// P15.2: the frame has the worker's own number twice, and the number of texts said before; nothing else, and the number and the text do not hang on each other.
func TestSaidFrame(t *testing.T) {
	for _, k := range clusters {
		for me := range k.n {
			o, m := orderOf(t, k, me)
			for seq, text := range append(slices.Clone(texts), texts...) {
				want := api.Frame{Kind: 1, From: me, To: 0, Origin: me, Seq: seq, Text: text}
				if got, err := say(t, "said", o, m, text); got != want || err != 0 {
					t.Errorf("%v, me %d: Say(%q): got %v, %d", k, me, text, show([]api.Frame{got}), err)
				}
			}
		}
	}
}

// P15.2, R1: 32 texts said and none delivered are OK, a 33rd is not, however often; and each that is delivered makes room for one more, of which the number is the next one, as the calls that failed have changed nothing.
func TestSayUntilFull(t *testing.T) {
	for _, k := range []cluster{one, four, seven} {
		me := k.n - 1
		o, m := orderOf(t, k, me)
		for seq := range 32 {
			if f, err := say(t, "room", o, m, fmt.Sprint(seq)); f != frame(fInit, me, me, seq, fmt.Sprint(seq)) || err != 0 {
				t.Errorf("%v: text %d: got %v, %d", k, seq, show([]api.Frame{f}), err)
			}
		}
		for seq := range 40 {
			for range 3 {
				if f, err := say(t, "full", o, m, "z"); f != (api.Frame{}) || err != full {
					t.Errorf("%v: a text too many: got %v, %d", k, show([]api.Frame{f}), err)
				}
				if f, err := say(t, "full and long", o, m, strings.Repeat("z", longest+1)); f != (api.Frame{}) || err != arg {
					t.Errorf("%v: a text too many, and too long: got %v, %d", k, show([]api.Frame{f}), err)
				}
			}
			readies(t, "a delivery", o, m, me, seq, "said", row(me, seq, "said"))
			if f, err := say(t, "room again", o, m, "z"); f != frame(fInit, me, me, 32+seq, "z") || err != 0 {
				t.Errorf("%v: behind delivery %d: got %v, %d", k, seq, show([]api.Frame{f}), err)
			}
		}
	}
}

// P15.2: only what is delivered of the worker itself makes room, and only in its turn; a delivery of several makes room for so many.
func TestRoomIsOfOwnDeliveries(t *testing.T) {
	o, m := orderOf(t, four, 2)
	for range 32 {
		say(t, "room", o, m, "x")
	}
	isFull := func(what string) {
		t.Helper()
		if f, err := say(t, what, o, m, "x"); f != (api.Frame{}) || err != full {
			t.Errorf("%s: got %v, %d", what, show([]api.Frame{f}), err)
		}
	}
	for _, origin := range []int{0, 1, 3} {
		for seq := range 3 {
			readies(t, "of another worker", o, m, origin, seq, "x", row(origin, seq, "x"))
			isFull("of another worker")
		}
	}
	for seq := 4; seq > 0; seq-- {
		readies(t, "ahead of its turn", o, m, 2, seq, "x", nil)
		isFull("ahead of its turn")
	}
	take(t, "its own frame", o, m, frame(fInit, 2, 2, 0, "x"), only(fEcho, 2, 2, 0, "x"), nil)
	isFull("its own frame")
	readies(t, "the first one", o, m, 2, 0, "x", row(2, 0, "x", "x", "x", "x", "x"))
	for seq := 32; seq < 37; seq++ {
		if f, err := say(t, "five are delivered", o, m, "y"); f != frame(fInit, 2, 2, seq, "y") || err != 0 {
			t.Errorf("got %v, %d", show([]api.Frame{f}), err)
		}
	}
	isFull("five more")
}

// P15.2: others can make it that more is delivered of a worker than it has said: its texts have the numbers that they would have, and there are as many as there may be.
func TestDeliveredWithoutBeingSaid(t *testing.T) {
	o, m := orderOf(t, four, 0)
	for seq := range 3 {
		readies(t, "not said", o, m, 0, seq, "x", row(0, seq, "x"))
	}
	for seq := range 35 {
		if f, err := say(t, "room", o, m, "y"); f != frame(fInit, 0, 0, seq, "y") || err != 0 {
			t.Errorf("text %d: got %v, %d", seq, show([]api.Frame{f}), err)
		}
	}
	if f, err := say(t, "full", o, m, "y"); f != (api.Frame{}) || err != full {
		t.Errorf("got %v, %d", show([]api.Frame{f}), err)
	}
	for seq := range 3 {
		ignored(t, "what is said is not open", o, m, frame(fInit, 0, 0, seq, "y"))
	}
	take(t, "what is open", o, m, frame(fInit, 0, 0, 3, "y"), only(fEcho, 0, 0, 3, "y"), nil)
}

// P15.2: what is said is not processed until the frame is taken: another text can come ahead of it, is echoed, and is the only one so far.
func TestSaidIsNotTaken(t *testing.T) {
	for _, k := range clusters {
		o, m := orderOf(t, k, 0)
		f, _ := say(t, "said", o, m, "x")
		check(t, "said", o, m)
		told(t, "said", o, 0, 0, false)
		if len(o.casts[0]) != 0 {
			t.Errorf("%v: %d broadcasts are kept", k, len(o.casts[0]))
		}
		other, sm := orderOf(t, k, 0)
		say(t, "said", other, sm, "x")
		take(t, "another text", other, sm, frame(fInit, 0, 0, 0, "y"), only(fEcho, 0, 0, 0, "y"), nil)
		told(t, "another text", other, 0, 0, false)
		take(t, "what was said", other, sm, f, nil, nil)
		told(t, "what was said", other, 0, 0, true)

		take(t, "what was said", o, m, f, only(fEcho, 0, 0, 0, "x"), nil)
		take(t, "again", o, m, f, nil, nil)
		told(t, "again", o, 0, 0, false)
	}
}

// P15.2, P15.3: a worker takes what it says like what others say: its echo and its ready count only when they are taken.
func TestOwnFramesAreLikeOthers(t *testing.T) {
	for me := range 4 {
		o, m := orderOf(t, four, me)
		f, _ := say(t, "said", o, m, "x")
		take(t, "said", o, m, f, only(fEcho, me, me, 0, "x"), nil)
		first, second := (me+1)%4, (me+2)%4
		take(t, "an echo", o, m, frame(fEcho, first, me, 0, "x"), nil, nil)
		take(t, "two echoes of others", o, m, frame(fEcho, second, me, 0, "x"), nil, nil)
		take(t, "its own", o, m, frame(fEcho, me, me, 0, "x"), only(fReady, me, me, 0, "x"), nil)
		take(t, "a ready", o, m, frame(fReady, first, me, 0, "x"), nil, nil)
		take(t, "two readies of others", o, m, frame(fReady, second, me, 0, "x"), nil, nil)
		take(t, "its own", o, m, frame(fReady, me, me, 0, "x"), nil, row(me, 0, "x"))
	}
}

// nearlyThere is an order of which one more echo, or one more ready, of worker 3 would lead to something: of origin 1, at 2.
func nearlyThere(t *testing.T) (*Order, *plain) {
	t.Helper()
	o, m := orderOf(t, four, 0)
	for seq := range 2 {
		readies(t, "ahead", o, m, 1, seq, "x", row(1, seq, "x"))
	}
	for from := range 2 {
		take(t, "nearly", o, m, frame(fEcho, from, 1, 2, "x"), nil, nil)
	}
	take(t, "nearly", o, m, frame(fReady, 0, 1, 2, "x"), nil, nil)
	take(t, "nearly", o, m, frame(fReady, 0, 1, 3, "x"), nil, nil)
	take(t, "nearly", o, m, frame(fReady, 1, 1, 3, "x"), only(fReady, 0, 1, 3, "x"), nil)
	return o, m
}

// nothingChanged lets come what nearlyThere lacks.
func nothingChanged(t *testing.T, what string, o *Order, m *plain) {
	t.Helper()
	told(t, what, o, 1, 2, false)
	if len(o.casts[1]) != 2 || len(o.casts[0])+len(o.casts[2])+len(o.casts[3]) != 0 {
		t.Errorf("%s: %v: other broadcasts are kept: %v", what, m, o.casts)
	}
	take(t, what, o, m, frame(fInit, 1, 1, 2, "x"), only(fEcho, 0, 1, 2, "x"), nil)
	take(t, what, o, m, frame(fEcho, 3, 1, 2, "x"), only(fReady, 0, 1, 2, "x"), nil)
	take(t, what, o, m, frame(fReady, 3, 1, 3, "x"), nil, nil)
	take(t, what, o, m, frame(fReady, 3, 1, 2, "x"), nil, nil)
	take(t, what, o, m, frame(fReady, 2, 1, 2, "x"), nil, row(1, 2, "x", "x"))
	told(t, what, o, 1, 4, false)
	for _, origin := range []int{0, 2, 3} {
		told(t, what, o, origin, 0, false)
		through(t, what, o, m, origin, 0, "x", row(origin, 0, "x"))
	}
}

// P15.3, P0: a frame whose From or Origin is no worker leads to nothing and changes nothing, of each kind; just what is one counts.
func TestTakeOfNoWorker(t *testing.T) {
	for _, k := range []int{-1, 4, 5, 6, 7, 8, -4, 256 + 1, 1<<32 + 1, math.MinInt, math.MaxInt} {
		o, m := nearlyThere(t)
		for _, kind := range kinds {
			for seq := range 5 {
				for _, text := range []string{"x", "y"} {
					ignored(t, "From", o, m, frame(kind, k, 1, seq, text))
					ignored(t, "Origin", o, m, frame(kind, 1, k, seq, text))
					ignored(t, "both", o, m, frame(kind, k, k, seq, text))
				}
			}
		}
		nothingChanged(t, "no worker", o, m)
	}
	for _, k := range clusters {
		for _, from := range []int{-1, 0, k.n - 1, k.n} {
			isWorker := from >= 0 && from <= k.n-1
			o, m := orderOf(t, k, 0)
			tell, _ := takeAny(t, "FInit", o, m, frame(fInit, from, from, 0, "x"))
			if (len(tell) == 1) != isWorker {
				t.Errorf("the test is wrong: %v: %v", k, show(tell))
			}
			takeAny(t, "FEcho", o, m, frame(fEcho, from, 0, 0, "x"))
			takeAny(t, "FReady", o, m, frame(fReady, from, 0, 0, "x"))
			check(t, "From", o, m)
		}
	}
}

// P15.3: an FInit whose From is not its Origin leads to nothing and changes nothing, also not Two; an FEcho and an FReady are of any worker.
func TestOnlyOriginsInit(t *testing.T) {
	for me := range 4 {
		for origin := range 4 {
			o, m := orderOf(t, four, me)
			for from := range 4 {
				if from != origin {
					ignored(t, "of another worker", o, m, frame(fInit, from, origin, 0, "x"))
					ignored(t, "of another worker", o, m, frame(fInit, from, origin, 0, "y"))
				}
			}
			told(t, "of other workers", o, origin, 0, false)
			if len(o.casts[origin]) != 0 {
				t.Errorf("a broadcast is kept")
			}
			take(t, "of the origin", o, m, frame(fInit, origin, origin, 0, "x"), only(fEcho, me, origin, 0, "x"), nil)
			for from := range 4 {
				if from != origin {
					ignored(t, "of another worker", o, m, frame(fInit, from, origin, 0, "y"))
				}
			}
			told(t, "of other workers", o, origin, 0, false)
			take(t, "of the origin", o, m, frame(fInit, origin, origin, 0, "y"), nil, nil)
			told(t, "of the origin", o, origin, 0, true)
		}
	}
}

// P15.3: kinds that are none of the three lead to nothing and change nothing: an FAccuse, 0 and those that are greater than all, also those that are one of the three in fewer bits.
func TestOtherKinds(t *testing.T) {
	for _, kind := range otherKinds {
		o, m := nearlyThere(t)
		for from := range 4 {
			for seq := range 5 {
				ignored(t, "another kind", o, m, frame(kind, from, 1, seq, "x"))
				ignored(t, "another kind", o, m, frame(kind, from, from, seq, "y"))
				ignored(t, "another kind", o, m, frame(kind, from, 1, seq, ""))
			}
		}
		nothingChanged(t, "other kinds", o, m)
	}
}

// P15.3: a Text of 400 bytes is taken and one of 401 is not, of each kind: it counts neither as an echo or a ready of its sender nor as a text of its origin.
func TestLongTexts(t *testing.T) {
	long := strings.Repeat("x", longest)
	for _, text := range []string{long + "x", long + "y", strings.Repeat("\u00e9", longest/2) + "x", strings.Repeat("\x00", longest+1), strings.Repeat("x", 1<<16)} {
		o, m := nearlyThere(t)
		for _, kind := range kinds {
			for from := range 4 {
				for seq := range 5 {
					ignored(t, "too long", o, m, frame(kind, from, 1, seq, text))
				}
			}
		}
		nothingChanged(t, "too long", o, m)
	}
	for _, text := range []string{"", "x", long[1:], long, strings.Repeat("\xff", longest), strings.Repeat("\u00e9", longest/2)} {
		o, m := orderOf(t, seven, 3)
		through(t, "not too long", o, m, 5, 0, text, row(5, 0, text))
		told(t, "not too long", o, 5, 1, false)
	}
	o, m := orderOf(t, four, 3)
	take(t, "a text", o, m, frame(fInit, 1, 1, 0, long), only(fEcho, 3, 1, 0, long), nil)
	take(t, "one that is too long", o, m, frame(fInit, 1, 1, 0, long+"x"), nil, nil)
	told(t, "one that is too long", o, 1, 0, false)
	take(t, "one that is not", o, m, frame(fInit, 1, 1, 0, long[1:]), nil, nil)
	told(t, "one that is not", o, 1, 0, true)
}

// P15.3: of an origin of which so many are delivered, exactly the numbers Next to Next + 31 are open, of each kind; what is not open leads to nothing and changes nothing.
func TestOpenNumbers(t *testing.T) {
	for _, next := range []int{0, 1, 2, 31, 32, 40} {
		cases := []struct {
			seq    int
			isOpen bool
		}{
			{math.MinInt, false}, {math.MinInt + 31, false}, {math.MinInt + 32, false}, {-33, false}, {-32, false}, {-31, false}, {-2, false}, {-1, false},
			{next - 1, false}, {next, true}, {next + 1, true}, {next + 16, true}, {next + 30, true}, {next + 31, true}, {next + 32, false}, {next + 33, false}, {next + 64, false},
			{256 + next, false}, {1<<32 + next, false}, {math.MaxInt - 32, false}, {math.MaxInt - 31, false}, {math.MaxInt, false},
		}
		o, m := orderOf(t, four, 3)
		for seq := range next {
			readies(t, "ahead", o, m, 1, seq, "x", row(1, seq, "x"))
		}
		told(t, "ahead", o, 1, next, false)
		for _, c := range cases {
			for _, kind := range kinds {
				var tell []api.Frame
				if c.isOpen && kind == fInit {
					tell = only(fEcho, 3, 1, c.seq, "y")
				}
				take(t, "a number", o, m, frame(kind, 1, 1, c.seq, "y"), tell, nil)
				if _, isKept := o.casts[1][c.seq]; isKept != c.isOpen {
					t.Errorf("Next %d: %d is kept: %v", next, c.seq, isKept)
				}
			}
			told(t, "a number", o, 1, next, false)
		}
		for _, c := range cases {
			take(t, "another text", o, m, frame(fInit, 1, 1, c.seq, "z"), nil, nil)
			if o.Two(1) != m.wantTwo(1) || o.Two(1) && c.seq < next {
				t.Errorf("Next %d: two texts at %d: got %v", next, c.seq, o.Two(1))
			}
		}
	}
}

// P15.3, P15.4: two texts at a number that is not open are not observed: neither behind the last one that is, nor ahead of the first one.
func TestTwoOfWhatIsNotOpen(t *testing.T) {
	o, m := orderOf(t, four, 3)
	for _, seq := range []int{-1, 32, 33, 64, math.MinInt, math.MaxInt} {
		ignored(t, "not open", o, m, frame(fInit, 1, 1, seq, "x"))
		ignored(t, "not open", o, m, frame(fInit, 1, 1, seq, "y"))
		told(t, "not open", o, 1, 0, false)
	}
	readies(t, "a delivery", o, m, 1, 0, "x", row(1, 0, "x"))
	take(t, "now it is open", o, m, frame(fInit, 1, 1, 32, "y"), only(fEcho, 3, 1, 32, "y"), nil)
	told(t, "one text", o, 1, 1, false)
	take(t, "another text", o, m, frame(fInit, 1, 1, 32, "x"), nil, nil)
	told(t, "another text", o, 1, 1, true)
}

// P15.3: what came too early has left nothing: once it is open, it has to come again.
func TestTooEarlyLeavesNothing(t *testing.T) {
	o, m := orderOf(t, four, 0)
	for from := range 4 {
		ignored(t, "too early", o, m, frame(fReady, from, 2, 32, "x"))
		ignored(t, "too early", o, m, frame(fEcho, from, 2, 32, "x"))
	}
	for seq := range 32 {
		readies(t, "up to it", o, m, 2, seq, "x", row(2, seq, "x"))
	}
	told(t, "up to it", o, 2, 32, false)
	through(t, "now", o, m, 2, 32, "z", row(2, 32, "z"))
}

// P15.3: the frames that are told are what a broadcast returns, with the worker's own number, and the frame's Origin and Seq; To, Tag and From of the frame itself don't matter.
func TestToldFrames(t *testing.T) {
	for me := range 7 {
		for origin := range 7 {
			o, m := orderOf(t, seven, me)
			for _, seq := range []int{31, 0, 7} {
				with := func(f api.Frame) api.Frame {
					f.To, f.Tag = 5, [32]byte{1, 2, 31: 3}
					return f
				}
				take(t, "an init", o, m, with(frame(fInit, origin, origin, seq, "x")), only(fEcho, me, origin, seq, "x"), nil)
				for from := range 4 {
					take(t, "echoes", o, m, with(frame(fEcho, from, origin, seq, "x")), nil, nil)
				}
				take(t, "echoes", o, m, with(frame(fEcho, 6, origin, seq, "x")), only(fReady, me, origin, seq, "x"), nil)
				for from := range 4 {
					take(t, "readies", o, m, with(frame(fReady, from, origin, seq, "x")), nil, nil)
				}
				var done []api.Frame
				if seq == 0 {
					done = row(origin, 0, "x")
				}
				take(t, "readies", o, m, with(frame(fReady, 6, origin, seq, "x")), nil, done)
			}
		}
	}
}

// P15.3: an FReady and a delivery can come in one call: with f 0, one ready is enough for both.
func TestToldAndDone(t *testing.T) {
	o, m := orderOf(t, cluster{3, 0}, 1)
	take(t, "ahead of its turn", o, m, frame(fReady, 0, 2, 1, "b"), only(fReady, 1, 2, 1, "b"), nil)
	take(t, "its turn", o, m, frame(fReady, 0, 2, 0, "a"), only(fReady, 1, 2, 0, "a"), row(2, 0, "a", "b"))
	told(t, "its turn", o, 2, 2, false)
}

// P15.3: what is delivered ahead of its turn waits, and all that then can be delivered is returned by one call, in the order of their numbers, up to the first gap.
func TestAheadOfItsTurn(t *testing.T) {
	for _, k := range clusters {
		for origin := range k.n {
			o, m := orderOf(t, k, 0)
			for _, seq := range []int{2, 1, 4, 31, 5} {
				through(t, "ahead of its turn", o, m, origin, seq, fmt.Sprint("text ", seq), nil)
				told(t, "ahead of its turn", o, origin, 0, false)
			}
			through(t, "the first one", o, m, origin, 0, "text 0", row(origin, 0, "text 0", "text 1", "text 2"))
			told(t, "the first one", o, origin, 3, false)
			through(t, "a later one", o, m, origin, 6, "text 6", nil)
			told(t, "a later one", o, origin, 3, false)
			through(t, "the gap", o, m, origin, 3, "text 3", row(origin, 3, "text 3", "text 4", "text 5", "text 6"))
			told(t, "the gap", o, origin, 7, false)
			through(t, "the next one", o, m, origin, 7, "text 7", row(origin, 7, "text 7"))
			told(t, "the next one", o, origin, 8, false)
		}
	}
}

// P15.3: all that is open can wait for the first one, which then lets all of it be delivered by one call; and in each order, what is delivered has the numbers 0 to 31 and the texts of these.
func TestWholeWindowWaits(t *testing.T) {
	o, m := orderOf(t, four, 1)
	var all []string
	for seq := range 32 {
		all = append(all, fmt.Sprint("text ", seq))
	}
	for seq := 31; seq > 0; seq-- {
		readies(t, "it waits", o, m, 3, seq, all[seq], nil)
	}
	ignored(t, "not open", o, m, frame(fReady, 0, 3, 32, "x"))
	told(t, "all wait", o, 3, 0, false)
	readies(t, "the first one", o, m, 3, 0, all[0], row(3, 0, all...))
	told(t, "the first one", o, 3, 32, false)
	if len(o.casts[3]) != 0 {
		t.Errorf("%d broadcasts are kept", len(o.casts[3]))
	}

	r := rand.New(rand.NewSource(1))
	for range 20 {
		o, m := orderOf(t, seven, r.Intn(7))
		var got []api.Frame
		for _, seq := range r.Perm(32) {
			for from := range 5 {
				_, done := takeAny(t, "at random", o, m, frame(fReady, from, 6, seq, all[seq]))
				got = append(got, done...)
			}
		}
		if want := row(6, 0, all...); !slices.Equal(got, want) {
			t.Errorf("at random: got %v", show(got))
		}
		check(t, "at random", o, m)
	}
}

// P15.3: a broadcast that is delivered and waits for its turn is open all the same: it still echoes, still observes two texts, and keeps its text.
func TestWaitingIsOpen(t *testing.T) {
	o, m := orderOf(t, four, 0)
	readies(t, "ahead of its turn", o, m, 1, 1, "x", nil)
	take(t, "its init", o, m, frame(fInit, 1, 1, 1, "y"), only(fEcho, 0, 1, 1, "y"), nil)
	told(t, "its init", o, 1, 0, false)
	take(t, "another init", o, m, frame(fInit, 1, 1, 1, "x"), nil, nil)
	told(t, "another init", o, 1, 0, true)
	take(t, "another ready", o, m, frame(fReady, 3, 1, 1, "y"), nil, nil)
	readies(t, "the first one", o, m, 1, 0, "z", row(1, 0, "z", "x"))
	told(t, "the first one", o, 1, 2, true)
}

// P15.3: a finished broadcast is no longer open: its frames are ignored, of each kind and text, and change neither Next nor Two; nor does a second broadcast begin there.
func TestFinishedIsNotOpen(t *testing.T) {
	for _, k := range clusters {
		for origin := range k.n {
			o, m := orderOf(t, k, 0)
			readies(t, "delivered", o, m, origin, 0, "x", row(origin, 0, "x"))
			told(t, "delivered", o, origin, 1, false)
			if len(o.casts[origin]) != 0 {
				t.Errorf("%v: %d broadcasts are kept", k, len(o.casts[origin]))
			}
			for range 2 {
				for _, text := range []string{"x", "y", ""} {
					for _, kind := range kinds {
						for from := range k.n {
							take(t, "finished", o, m, frame(kind, from, origin, 0, text), nil, nil)
						}
					}
				}
				told(t, "finished", o, origin, 1, false)
			}
			through(t, "the next one", o, m, origin, 1, "y", row(origin, 1, "y"))
			told(t, "the next one", o, origin, 2, false)
		}
	}
}

// P15.3: an FInit that comes behind the delivery is not echoed any more; one that comes ahead of it and behind the readies of others is.
func TestInitComesLate(t *testing.T) {
	o, m := orderOf(t, four, 2)
	take(t, "a ready", o, m, frame(fReady, 0, 1, 0, "x"), nil, nil)
	take(t, "two readies", o, m, frame(fReady, 3, 1, 0, "x"), only(fReady, 2, 1, 0, "x"), nil)
	take(t, "an init", o, m, frame(fInit, 1, 1, 0, "x"), only(fEcho, 2, 1, 0, "x"), nil)
	take(t, "three readies", o, m, frame(fReady, 1, 1, 0, "x"), nil, row(1, 0, "x"))
	take(t, "of the next one, a ready", o, m, frame(fReady, 0, 1, 1, "x"), nil, nil)
	take(t, "two readies", o, m, frame(fReady, 3, 1, 1, "x"), only(fReady, 2, 1, 1, "x"), nil)
	take(t, "three readies", o, m, frame(fReady, 1, 1, 1, "x"), nil, row(1, 1, "x"))
	take(t, "an init", o, m, frame(fInit, 1, 1, 1, "x"), nil, nil)
}

// P15.4: two texts of an origin at one number are observed, and stay so: behind other frames, when the broadcast is finished, and when later ones are that had one text.
func TestTwoStays(t *testing.T) {
	for _, k := range clusters {
		for origin := range k.n {
			o, m := orderOf(t, k, k.n-1)
			take(t, "a text", o, m, frame(fInit, origin, origin, 0, "x"), only(fEcho, k.n-1, origin, 0, "x"), nil)
			told(t, "a text", o, origin, 0, false)
			take(t, "another one", o, m, frame(fInit, origin, origin, 0, "y"), nil, nil)
			told(t, "another one", o, origin, 0, true)
			take(t, "the first one", o, m, frame(fInit, origin, origin, 0, "x"), nil, nil)
			told(t, "the first one", o, origin, 0, true)
			readies(t, "delivered", o, m, origin, 0, "x", row(origin, 0, "x"))
			told(t, "delivered", o, origin, 1, true)
			for seq := 1; seq < 40; seq++ {
				through(t, "later ones", o, m, origin, seq, "z", row(origin, seq, "z"))
				told(t, "later ones", o, origin, seq+1, true)
			}
			for other := range k.n {
				if other != origin {
					told(t, "of another worker", o, other, 0, false)
				}
			}
		}
	}
}

// P15.4: the same text twice is one text; two texts at two numbers are as well; nor do echoes and readies of other texts make two.
func TestNotTwo(t *testing.T) {
	o, m := orderOf(t, seven, 4)
	for seq, text := range texts {
		take(t, "a text", o, m, frame(fInit, 2, 2, seq, text), only(fEcho, 4, 2, seq, text), nil)
		for range 3 {
			take(t, "the same", o, m, frame(fInit, 2, 2, seq, text), nil, nil)
		}
		for from := range 7 {
			takeAny(t, "echoes and readies", o, m, frame(fEcho, from, 2, seq, texts[from]))
			takeAny(t, "echoes and readies", o, m, frame(fReady, from, 2, seq, texts[(from+5)%len(texts)]))
		}
		check(t, "one text at each number", o, m)
		told(t, "one text at each number", o, 2, 0, false)
	}
	for a := range 7 {
		if a != 2 {
			take(t, "a text of another worker", o, m, frame(fInit, a, a, 0, "other"), only(fEcho, 4, a, 0, "other"), nil)
			told(t, "a text of another worker", o, a, 0, false)
		}
	}
	told(t, "texts of others", o, 2, 0, false)
}

// P15.4: two texts are observed at each number that is open, the first and the last one, and of texts that differ by little, the empty one among them.
func TestTwoAtAnyNumber(t *testing.T) {
	for seq := range 32 {
		for _, pair := range [][2]string{{"x", "y"}, {"", "x"}, {"x", ""}, {"a", "a\x00"}, {strings.Repeat("a", 400), strings.Repeat("a", 399)}, {strings.Repeat("a", 400), strings.Repeat("a", 399) + "b"}} {
			o, m := orderOf(t, four, 0)
			take(t, "a text", o, m, frame(fInit, 3, 3, seq, pair[0]), only(fEcho, 0, 3, seq, pair[0]), nil)
			told(t, "a text", o, 3, 0, false)
			take(t, "another one", o, m, frame(fInit, 3, 3, seq, pair[1]), nil, nil)
			told(t, "another one", o, 3, 0, true)
		}
	}
}

// P15.3, P15.4: the origins' broadcasts don't touch one another: the same numbers of all origins, frame by frame in turn, with texts of their own.
func TestOriginsAreApart(t *testing.T) {
	for _, k := range []cluster{{2, 0}, four, seven} {
		o, m := orderOf(t, k, 1)
		text := func(origin int) string { return fmt.Sprint("of ", origin) }
		for origin := range k.n {
			take(t, "inits", o, m, frame(fInit, origin, origin, 0, text(origin)), only(fEcho, 1, origin, 0, text(origin)), nil)
		}
		for from := range k.n {
			for origin := range k.n {
				tell, _ := takeAny(t, "echoes", o, m, frame(fEcho, from, origin, 0, text(origin)))
				if want := only(fReady, 1, origin, 0, text(origin)); len(tell) != 0 && !slices.Equal(tell, want) {
					t.Errorf("%v: got %v", k, show(tell))
				}
			}
		}
		for from := range 2*k.f + 1 {
			for origin := range k.n {
				var done []api.Frame
				if from == 2*k.f {
					done = row(origin, 0, text(origin))
				}
				take(t, "readies", o, m, frame(fReady, from, origin, 0, text(origin)), nil, done)
				told(t, "readies", o, origin, len(done), false)
			}
		}
	}
}

// P15.3: readies of one number don't count for another one, nor do those of another origin; and what is delivered of one origin lets nothing be delivered of another one that waits.
func TestNumbersAreApart(t *testing.T) {
	o, m := orderOf(t, four, 0)
	for seq := range 32 {
		take(t, "a ready of each", o, m, frame(fReady, seq%4, 2, seq, "x"), nil, nil)
		take(t, "of another origin", o, m, frame(fReady, 3-seq%4, 3, seq, "x"), nil, nil)
	}
	told(t, "a ready of each", o, 2, 0, false)
	readies(t, "ahead of its turn", o, m, 1, 1, "y", nil)
	for from := 1; from < 3; from++ {
		takeAny(t, "the first one", o, m, frame(fReady, from, 2, 0, "x"))
	}
	told(t, "the first one", o, 2, 1, false)
	told(t, "what waits", o, 1, 0, false)
	told(t, "another origin", o, 3, 0, false)
	readies(t, "its turn", o, m, 1, 0, "x", row(1, 0, "x", "y"))
	check(t, "its turn", o, m)
}

// P15.3: the number of one origin's deliveries does not move what is open of another one.
func TestOpenIsOfTheOrigin(t *testing.T) {
	o, m := orderOf(t, four, 0)
	for seq := range 40 {
		readies(t, "of one", o, m, 1, seq, "x", row(1, seq, "x"))
	}
	for _, origin := range []int{0, 2, 3} {
		ignored(t, "not open", o, m, frame(fInit, origin, origin, 32, "x"))
		take(t, "open", o, m, frame(fInit, origin, origin, 31, "x"), only(fEcho, 0, origin, 31, "x"), nil)
		take(t, "open", o, m, frame(fInit, origin, origin, 0, "x"), only(fEcho, 0, origin, 0, "x"), nil)
	}
	ignored(t, "finished", o, m, frame(fInit, 1, 1, 39, "x"))
	take(t, "open", o, m, frame(fInit, 1, 1, 71, "x"), only(fEcho, 0, 1, 71, "x"), nil)
	ignored(t, "not open", o, m, frame(fInit, 1, 1, 72, "x"))
}

// P15.1: the f of the order is that of its broadcasts: with 7 workers, so many readies lead to a ready, and so many deliver.
func TestFaultyWorkers(t *testing.T) {
	for f := range 3 {
		o, m := orderOf(t, cluster{7, f}, 6)
		for from := range 7 {
			var tell, done []api.Frame
			if from == f {
				tell = only(fReady, 6, 0, 0, "x")
			}
			if from == 2*f {
				done = row(0, 0, "x")
			}
			take(t, "readies", o, m, frame(fReady, from, 0, 0, "x"), tell, done)
		}
		told(t, "readies", o, 0, 1, false)
	}
}

// someFrame is one that has a good chance of leading to something.
func someFrame(r *rand.Rand, m *plain) api.Frame {
	f := frame(kinds[r.Intn(3)], r.Intn(m.n), r.Intn(min(m.n, 2)), 0, []string{"a", "a", "a", "a", "b", ""}[r.Intn(6)])
	if f.Kind == fInit && r.Intn(4) > 0 {
		f.From = f.Origin
	}
	f.Seq = m.wantNext(f.Origin) + []int{0, 0, 0, 1, 1, 2, -1, 31}[r.Intn(8)]
	switch r.Intn(24) {
	case 0:
		f.Kind = ends[r.Intn(len(ends))]
	case 1:
		f.From = ends[r.Intn(len(ends))]
	case 2:
		f.Origin = ends[r.Intn(len(ends))]
	case 3:
		f.Seq = ends[r.Intn(len(ends))]
	case 4:
		f.Text = strings.Repeat("a", longest+r.Intn(2))
	case 5:
		f.To, f.Tag[r.Intn(32)] = ends[r.Intn(len(ends))], 1
	}
	return f
}

// P15.1 to P15.4 by their words: anything at random, step by step.
func TestByChance(t *testing.T) {
	r := rand.New(rand.NewSource(2))
	done, waited, two := 0, 0, 0
	for range 600 {
		k := clusters[r.Intn(len(clusters))]
		o, m := orderOf(t, k, r.Intn(k.n))
		for range 150 {
			if r.Intn(10) == 0 {
				say(t, "by chance", o, m, strings.Repeat("a", r.Intn(3)*200+r.Intn(2)))
			}
			_, all := takeAny(t, "by chance", o, m, someFrame(r, m))
			done += len(all)
			waited += max(0, len(all)-1)
		}
		check(t, "by chance", o, m)
		if m.wantTwo(0) {
			two++
		}
	}
	if done < 1000 || waited < 200 || two < 100 {
		t.Errorf("the test is wrong: %d are delivered, %d of them had to wait, %d have two texts", done, waited, two)
	}
}

// P15.3: all sequences of a few frames, of one worker and of two.
func TestSmallOrders(t *testing.T) {
	for _, x := range []struct {
		k     cluster
		depth int
		texts []string
		seqs  []int
	}{
		{one, 5, []string{"a"}, []int{0, 1}}, {one, 3, []string{"", "a", "b"}, []int{0, 1, 2}}, {cluster{2, 0}, 3, []string{"a", "b"}, []int{0, 1}},
	} {
		var steps []api.Frame
		for _, kind := range kinds {
			for from := range x.k.n {
				for _, text := range x.texts {
					for _, seq := range x.seqs {
						steps = append(steps, frame(kind, from, 0, seq, text))
					}
				}
			}
		}
		var walk func(all []api.Frame)
		walk = func(all []api.Frame) {
			o, m := orderOf(t, x.k, 0)
			for _, f := range all {
				takeAny(t, "a small order", o, m, f)
			}
			if o.Next(0) != m.wantNext(0) || o.Two(0) != m.wantTwo(0) {
				t.Errorf("%v: got %d, %v", m, o.Next(0), o.Two(0))
			}
			if len(all) < x.depth && !t.Failed() {
				for _, f := range steps {
					walk(append(slices.Clone(all), f))
				}
			}
		}
		walk(nil)
	}
}

// R3: what a caller writes into a result, or behind its end, reaches neither the order nor another result; and a result stays as it was.
func TestResultsAreTheCallersOwn(t *testing.T) {
	spoil := func(l []api.Frame) {
		l = l[:cap(l)]
		for i := range l {
			l[i] = api.Frame{Kind: fReady, From: 9, To: 9, Origin: 9, Seq: 9, Text: "spoilt"}
		}
	}
	spoilt, m := orderOf(t, cluster{4, 0}, 2)
	other, om := orderOf(t, cluster{4, 0}, 2)
	var kept, wanted [][]api.Frame
	for seq := 3; seq >= 0; seq-- {
		for _, f := range []api.Frame{frame(fInit, 1, 1, seq, "x"), frame(fEcho, 1, 1, seq, "x"), frame(fEcho, 2, 1, seq, "x"), frame(fReady, 0, 1, seq, "y"), frame(fReady, 3, 1, seq, "x")} {
			wantTell, wantDone := m.wantTake(f)
			tell, done := spoilt.Take(f)
			if !slices.Equal(tell, wantTell) || !slices.Equal(done, wantDone) {
				t.Errorf("%v: got %v, %v, want %v, %v", m, show(tell), show(done), show(wantTell), show(wantDone))
			}
			spoil(tell)
			if !slices.Equal(done, wantDone) {
				t.Errorf("%v: what is told reaches what is done: %v", m, show(done))
			}
			spoil(done)
			check(t, "spoilt", spoilt, m)
			tell, done = other.Take(f)
			om.wantTake(f)
			kept, wanted = append(kept, tell, done), append(wanted, wantTell, wantDone)
		}
	}
	told(t, "spoilt", spoilt, 1, 4, false)
	told(t, "kept", other, 1, 4, false)
	for i := range kept {
		if !slices.Equal(kept[i], wanted[i]) {
			t.Errorf("result %d: got %v, want %v", i, show(kept[i]), show(wanted[i]))
		}
	}
}

// R3: no result shares memory with a text that was handed in, of which a longer one would be kept with it; nor do tell and done of one call share any.
func TestTextsAreCopied(t *testing.T) {
	whole := strings.Repeat("abcdefgh", 1<<10)
	text := whole[8:40]
	at := func(s string) uintptr { return uintptr(unsafe.Pointer(unsafe.StringData(s))) }
	apart := func(what, s string) {
		t.Helper()
		if at(s) >= at(whole) && at(s) < at(whole)+uintptr(len(whole)) {
			t.Errorf("%s shares memory with what was handed in", what)
		}
		if s != text {
			t.Errorf("%s: got %q", what, s)
		}
	}
	o, _ := orderOf(t, one, 0)
	f, _ := o.Say(text)
	apart("what is said", f.Text)
	for _, kind := range []int{fInit, fReady} {
		tell, done := o.Take(frame(kind, 0, 0, 0, text))
		for _, f := range append(slices.Clone(tell), done...) {
			apart("a frame", f.Text)
		}
		if kind == fReady && (len(tell) != 1 || len(done) != 1 || at(tell[0].Text) == at(done[0].Text)) {
			t.Errorf("got %v, %v", show(tell), show(done))
		}
	}
}

// R4: asking changes nothing, and tells the same twice.
func TestTellingChangesNothing(t *testing.T) {
	r := rand.New(rand.NewSource(3))
	for range 50 {
		k := clusters[r.Intn(len(clusters))]
		asked, m := orderOf(t, k, 0)
		other, _ := orderOf(t, k, 0)
		for range 60 {
			for range 2 {
				check(t, "asked", asked, m)
			}
			f := someFrame(r, m)
			wantTell, wantDone := m.wantTake(f)
			for _, o := range []*Order{asked, other} {
				if tell, done := o.Take(f); !slices.Equal(tell, wantTell) || !slices.Equal(done, wantDone) {
					t.Errorf("%v: got %v, %v, want %v, %v", m, show(tell), show(done), show(wantTell), show(wantDone))
				}
			}
		}
		check(t, "not asked", other, m)
	}
}

// R1: a call of Say that fails changes nothing that any later call tells.
func TestFailedSayChangesNothing(t *testing.T) {
	r := rand.New(rand.NewSource(4))
	for range 50 {
		k := clusters[r.Intn(len(clusters))]
		o, m := orderOf(t, k, 0)
		for range 33 {
			say(t, "room", o, m, "x")
		}
		for range 60 {
			long, _ := o.Say(strings.Repeat("x", longest+1))
			if long != (api.Frame{}) {
				t.Errorf("got %v", show([]api.Frame{long}))
			}
			if m.wantNext(0)+window == m.said {
				say(t, "full", o, m, "x")
			}
			takeAny(t, "behind an error", o, m, someFrame(r, m))
			check(t, "behind an error", o, m)
		}
		for m.said < m.wantNext(0)+window {
			say(t, "room again", o, m, "x")
		}
		say(t, "full", o, m, "x")
	}
}

// P15.1: two orders share nothing.
func TestOrdersAreApart(t *testing.T) {
	a, am := orderOf(t, four, 0)
	b, bm := orderOf(t, seven, 6)
	c, cm := orderOf(t, four, 0)
	for seq := range 3 {
		say(t, "one", a, am, "x")
		take(t, "one", a, am, frame(fInit, 1, 1, seq, "x"), only(fEcho, 0, 1, seq, "x"), nil)
		take(t, "one", a, am, frame(fInit, 1, 1, seq, "y"), nil, nil)
		readies(t, "one", a, am, 1, seq, "x", row(1, seq, "x"))
	}
	for _, x := range []struct {
		o *Order
		m *plain
	}{{b, bm}, {c, cm}} {
		check(t, "another one", x.o, x.m)
		told(t, "another one", x.o, 1, 0, false)
		if f, err := say(t, "another one", x.o, x.m, "z"); f.Seq != 0 || err != 0 {
			t.Errorf("got %v, %d", show([]api.Frame{f}), err)
		}
		through(t, "another one", x.o, x.m, 1, 0, "z", row(1, 0, "z"))
	}
	check(t, "one", a, am)
	told(t, "one", a, 1, 3, true)
}

// P15.3: what is kept is what is open and not finished, however much has gone through: no more than 32 broadcasts of an origin.
func TestNothingIsKept(t *testing.T) {
	o, m := orderOf(t, four, 0)
	for seq := range 200 {
		for origin := range 4 {
			for from := range 4 {
				takeAny(t, "many", o, m, frame(fReady, from, origin, seq, "x"))
				takeAny(t, "many, too early", o, m, frame(fInit, origin, origin, seq+32+from, "x"))
			}
		}
	}
	check(t, "many", o, m)
	for origin, l := range o.casts {
		for seq := range maps.Keys(l) {
			if seq < 200 || seq > 231 {
				t.Errorf("a broadcast of %d at %d is kept", origin, seq)
			}
		}
	}
	for origin := range 4 {
		told(t, "many", o, origin, 200, false)
	}
}

// R4: a result does not depend on how the maps are gone through: the same, many times over.
func TestResultsRepeat(t *testing.T) {
	r := rand.New(rand.NewSource(5))
	for range 20 {
		k := clusters[r.Intn(len(clusters))]
		_, m := orderOf(t, k, 0)
		all := make([]api.Frame, 100)
		var first []api.Frame
		for i := range all {
			all[i] = someFrame(r, m)
			tell, done := m.wantTake(all[i])
			first = slices.Concat(first, tell, done)
		}
		for range 20 {
			o, _ := New(k.n, k.f, 0)
			var got []api.Frame
			for _, f := range all {
				tell, done := o.Take(f)
				got = slices.Concat(got, tell, done)
			}
			if !slices.Equal(got, first) {
				t.Fatalf("%v: got %v, want %v", m, show(got), show(first))
			}
		}
	}
}

// R4, R5: orders that are used by a goroutine each don't disturb one another.
func TestTogether(t *testing.T) {
	var all sync.WaitGroup
	for i := range 8 {
		o, m := orderOf(t, clusters[4+i], 1)
		r := rand.New(rand.NewSource(int64(i)))
		all.Go(func() {
			for range 200 {
				takeAny(t, "together", o, m, someFrame(r, m))
				say(t, "together", o, m, "x")
			}
			check(t, "together", o, m)
		})
	}
	all.Wait()
}

// P0, P15.1 to P15.4: any calls at all; three bytes are the n, the f and the me, and each five behind them a frame that is taken, or a text that is said.
func FuzzOrder(f *testing.F) {
	f.Add([]byte{4, 1, 2, 1, 1, 1, 0, 7, 2, 0, 1, 0, 7, 2, 1, 1, 0, 7, 2, 2, 1, 0, 7, 3, 0, 1, 0, 7, 3, 1, 1, 0, 7, 3, 2, 1, 0, 7})
	f.Add([]byte{})
	f.Add([]byte{1, 0, 0, 8, 0, 0, 0, 1, 1, 0, 0, 0, 1, 2, 0, 0, 0, 1, 3, 0, 0, 0, 1, 3, 0, 0, 2, 1, 3, 0, 0, 1, 1, 1, 0, 0, 255, 1})
	f.Add([]byte{255, 240, 0, 0, 0})
	f.Add([]byte{2, 0, 1, 1, 0, 0, 0, 0, 1, 0, 0, 0, 1, 1, 1, 0, 0, 1, 3, 1, 0, 0, 255, 3, 1, 0, 0, 5, 1, 0, 0, 0, 3, 240, 240, 230, 250, 4})
	part := func(n byte) int {
		if int(n) < 256-len(ends) {
			return int(n % 9)
		}
		return ends[int(n)-(256-len(ends))]
	}
	text := func(n byte) string {
		if n >= 250 {
			return strings.Repeat("x", longest+int(n)-252)
		}
		return texts[int(n)%len(texts)]
	}
	f.Fuzz(func(t *testing.T, code []byte) {
		if len(code) < 3 {
			return
		}
		n, faulty, me := part(code[0]), part(code[1]), part(code[2])
		if !slices.Contains(clusters, cluster{n, faulty}) || me < 0 || me > n-1 {
			if o, err := New(n, faulty, me); o != nil || err != arg {
				t.Errorf("New(%d, %d, %d): got %v, %d", n, faulty, me, o, err)
			}
			return
		}
		o, m := orderOf(t, cluster{n, faulty}, me)
		for code = code[3:]; len(code) >= 5; code = code[5:] {
			kind := part(code[0])
			if kind == 8 {
				say(t, "any calls", o, m, text(code[4]))
				continue
			}
			takeAny(t, "any calls", o, m, frame(kind, part(code[1]), part(code[2]), part(code[3]), text(code[4])))
		}
		check(t, "any calls", o, m)
	})
}
