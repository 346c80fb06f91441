package bracha

import (
	"fmt"
	"math"
	"math/rand"
	"slices"
	"strings"
	"sync"
	"testing"
	"unsafe"

	"garboard/api"
)

// The limit, the kinds and the error, by their numbers, so that no test leans on the constants.
const (
	most = 7

	fInit   = 1
	fEcho   = 2
	fReady  = 3
	fAccuse = 4

	arg = api.Errno(1)
)

// ends are numbers around those of workers and of kinds, and the type's own ends.
var ends = []int{math.MinInt, math.MinInt + 1, -8, -7, -2, -1, 0, 1, 2, 3, 4, 5, 6, 7, 8, 9, 16, 64, 256, 257, math.MaxInt - 1, math.MaxInt}

// kinds are all that a broadcast does not ignore.
var kinds = []int{fInit, fEcho, fReady}

// cluster is an n and an f of which there is a broadcast, and how many workers its QUORUM has.
type cluster struct{ n, f, quorum int }

// clusters are all of these, written out.
var clusters = []cluster{
	{1, 0, 1}, {2, 0, 2}, {3, 0, 2}, {4, 0, 3}, {5, 0, 3}, {6, 0, 4}, {7, 0, 4},
	{4, 1, 3}, {5, 1, 4}, {6, 1, 4}, {7, 1, 5},
	{7, 2, 5},
}

// texts that differ by little; in increasing order.
var texts = []string{"", "\x00", "A", "a", "a\x00", "aa", "b", "x", "y", "\x7f", "\x80", "\xff", "\xff\xff"}

// input is what Take gets.
type input struct {
	kind, from int
	text       string
}

func ini(from int, text string) input   { return input{fInit, from, text} }
func echo(from int, text string) input  { return input{fEcho, from, text} }
func ready(from int, text string) input { return input{fReady, from, text} }

// String tells it with its text as it stands in a program.
func (i input) String() string { return fmt.Sprintf("Take(%d, %d, %q)", i.kind, i.from, i.text) }

// call hands it to a broadcast.
func (i input) call(c *Cast) []api.Frame { return c.Take(i.kind, i.from, i.text) }

func echoes(text string) []api.Frame  { return []api.Frame{{Kind: fEcho, Text: text}} }
func readies(text string) []api.Frame { return []api.Frame{{Kind: fReady, Text: text}} }

// show tells frames with their texts as these stand in a program.
func show(l []api.Frame) string {
	all := []string{}
	for _, f := range l {
		all = append(all, fmt.Sprintf("%d %q", f.Kind, f.Text))
		if f != (api.Frame{Kind: f.Kind, Text: f.Text}) {
			all = append(all, fmt.Sprintf("and more: %#v", f))
		}
	}
	return fmt.Sprint(all)
}

// plain is a broadcast by the document's words: all that was received and not ignored, in its order, and what was said of it.
type plain struct {
	cluster
	all                 []input
	hasEchoed, hasReady bool
	isDone              bool
	done                string
}

// of returns how many workers have their echo, or their ready, with this text: the first one that was received from each.
func (m *plain) of(kind int, text string) int {
	n := 0
	for k := range m.n {
		first := slices.IndexFunc(m.all, func(i input) bool { return i.kind == kind && i.from == k })
		if first >= 0 && m.all[first].text == text {
			n++
		}
	}
	return n
}

// received are the texts of all that was received, each once, the least one first.
func (m *plain) received() []string {
	var all []string
	for _, i := range m.all {
		all = append(all, i.text)
	}
	slices.Sort(all)
	return slices.Compact(all)
}

// wantTake takes it as Take should, by the words of P14.2.
func (m *plain) wantTake(i input) []api.Frame {
	if i.from < 0 || i.from > m.n-1 || !slices.Contains(kinds, i.kind) {
		return nil
	}
	isFirst := i.kind == fInit && !slices.ContainsFunc(m.all, func(i input) bool { return i.kind == fInit })
	m.all = append(m.all, i)
	var tell []api.Frame
	if isFirst && !m.hasEchoed {
		m.hasEchoed = true
		tell = append(tell, echoes(i.text)...)
	}
	for _, text := range m.received() {
		if (m.of(fEcho, text) >= m.quorum || m.of(fReady, text) >= m.f+1) && !m.hasReady {
			m.hasReady = true
			tell = append(tell, readies(text)...)
		}
	}
	for _, text := range m.received() {
		if m.of(fReady, text) >= 2*m.f+1 && !m.isDone {
			m.isDone, m.done = true, text
		}
	}
	return tell
}

// wantTwo is Two by the words of P14.3.
func (m *plain) wantTwo() bool {
	for _, i := range m.all {
		for _, j := range m.all {
			if i.kind == fInit && j.kind == fInit && i.text != j.text {
				return true
			}
		}
	}
	return false
}

// copied is another one of which the same was received and said.
func (m *plain) copied() *plain {
	other := *m
	other.all = slices.Clone(m.all)
	return &other
}

// check holds what a broadcast tells against m.
func check(t *testing.T, what string, c *Cast, m *plain) {
	t.Helper()
	if text, is := c.Done(); text != m.done || is != m.isDone {
		t.Errorf("%s: %v: %v: Done: got %q, %v, want %q, %v", what, m.cluster, m.all, text, is, m.done, m.isDone)
	}
	if got, want := c.Two(), m.wantTwo(); got != want {
		t.Errorf("%s: %v: %v: Two: got %v", what, m.cluster, m.all, got)
	}
}

// take hands something to the broadcast and to what it is held against; both must return what is expected.
func take(t *testing.T, what string, c *Cast, m *plain, i input, want []api.Frame) {
	t.Helper()
	if got := i.call(c); !slices.Equal(got, want) {
		t.Errorf("%s: %v: %v: %v: got %v, want %v", what, m.cluster, m.all, i, show(got), show(want))
	}
	if got := m.wantTake(i); !slices.Equal(got, want) {
		t.Fatalf("%s: the test is wrong: %v: %v: %v: %v, not %v", what, m.cluster, m.all, i, show(got), show(want))
	}
	check(t, what, c, m)
}

// takeAny is take, of which the model alone tells what is expected.
func takeAny(t *testing.T, what string, c *Cast, m *plain, i input) {
	t.Helper()
	take(t, what, c, m, i, m.copied().wantTake(i))
}

// told holds what a broadcast tells against what is written out.
func told(t *testing.T, what string, c *Cast, text string, is, two bool) {
	t.Helper()
	if got, isDone := c.Done(); got != text || isDone != is {
		t.Errorf("%s: Done: got %q, %v, want %q, %v", what, got, isDone, text, is)
	}
	if got := c.Two(); got != two {
		t.Errorf("%s: Two: got %v", what, got)
	}
}

// textIf is the text if there is one, and the empty one that Done returns otherwise.
func textIf(is bool, text string) string {
	if is {
		return text
	}
	return ""
}

// castOf is a broadcast that has taken these.
func castOf(t *testing.T, k cluster, all ...input) (*Cast, *plain) {
	t.Helper()
	c, err := New(k.n, k.f)
	if err != 0 || c == nil {
		t.Fatalf("New(%d, %d): got %v, %d", k.n, k.f, c, err)
	}
	m := &plain{cluster: k}
	for _, i := range all {
		takeAny(t, "to begin with", c, m, i)
	}
	return c, m
}

// four is the cluster of the chapter's examples, and seven the greatest one.
var four, seven = cluster{4, 1, 3}, cluster{7, 2, 5}

// The chapter's examples, step by step; and that of the whole: four workers, f 1: three readies deliver a text.
func TestExamples(t *testing.T) {
	c, m := castOf(t, four)
	take(t, "init", c, m, ini(0, "x"), echoes("x"))
	take(t, "one echo", c, m, echo(0, "x"), nil)
	take(t, "two echoes", c, m, echo(1, "x"), nil)
	take(t, "three echoes", c, m, echo(2, "x"), readies("x"))
	take(t, "one ready", c, m, ready(0, "x"), nil)
	take(t, "two readies", c, m, ready(1, "x"), nil)
	told(t, "two readies", c, "", false, false)
	take(t, "three readies", c, m, ready(2, "x"), nil)
	told(t, "three readies", c, "x", true, false)

	c, m = castOf(t, four)
	take(t, "one ready", c, m, ready(3, "x"), nil)
	take(t, "two readies", c, m, ready(1, "x"), readies("x"))
	told(t, "two readies", c, "", false, false)
	take(t, "three readies", c, m, ready(0, "x"), nil)
	told(t, "three readies", c, "x", true, false)
}

// P14.1, R1: each n and f about the limits, written out; beside the error there is no broadcast.
func TestNew(t *testing.T) {
	cases := []struct {
		n, f int
		want api.Errno
	}{
		{-1, 0, arg}, {0, 0, arg}, {1, 0, 0}, {2, 0, 0}, {3, 0, 0}, {4, 0, 0}, {5, 0, 0}, {6, 0, 0}, {7, 0, 0}, {8, 0, arg}, {9, 0, arg},
		{-1, -1, arg}, {0, -1, arg}, {1, -1, arg}, {2, -1, arg}, {4, -1, arg}, {7, -1, arg}, {7, -2, arg}, {8, -1, arg}, {7, -3, arg},
		{1, 1, arg}, {2, 1, arg}, {3, 1, arg}, {4, 1, 0}, {5, 1, 0}, {6, 1, 0}, {7, 1, 0}, {8, 1, arg},
		{4, 2, arg}, {5, 2, arg}, {6, 2, arg}, {7, 2, 0}, {8, 2, arg}, {7, 3, arg}, {8, 3, arg}, {9, 3, arg}, {10, 3, arg}, {11, 3, arg},
		{-4, -2, arg}, {-2, -1, arg}, {-5, -2, arg}, {0, 1, arg}, {100, 33, arg}, {math.MaxInt, 0, arg}, {math.MaxInt, 1, arg}, {math.MinInt, 0, arg},
		{7, math.MaxInt, arg}, {7, math.MinInt, arg}, {math.MinInt, math.MinInt, arg}, {math.MaxInt, math.MaxInt, arg}, {math.MinInt, math.MaxInt, arg},
	}
	for _, c := range cases {
		if got, err := New(c.n, c.f); err != c.want || (got != nil) != (c.want == 0) {
			t.Errorf("New(%d, %d): got %v, %d, want %d", c.n, c.f, got, err, c.want)
		}
	}
	for f := range 5 {
		for n := 3 * f; n <= 3*f+2; n++ {
			isOne := f < 3 && n > 3*f && n <= 7
			if got, err := New(n, f); (got != nil) != isOne || (err == 0) != isOne || !isOne && err != arg {
				t.Errorf("New(%d, %d): got %v, %d", n, f, got, err)
			}
		}
	}
}

// P14.1: any n and f by the promise's words.
func TestNewOfAny(t *testing.T) {
	for _, n := range ends {
		for _, f := range ends {
			want := arg
			if slices.ContainsFunc(clusters, func(c cluster) bool { return c.n == n && c.f == f }) {
				want = 0
			}
			if c, err := New(n, f); err != want || (c != nil) != (want == 0) {
				t.Errorf("New(%d, %d): got %v, %d, want %d", n, f, c, err, want)
			}
		}
	}
}

// P14.1: an f of which 3f is too great for an int, and would wrap around to one that is less than n.
func TestNewOfGreatF(t *testing.T) {
	third := int(uint(math.MaxUint) / 3)
	for _, f := range []int{third, third + 1, third + 2, third + 3, math.MaxInt/3 + 1, math.MaxInt / 3, math.MaxInt / 2, math.MaxInt, math.MinInt, -third, math.MinInt + third} {
		for n := -1; n <= most+1; n++ {
			if c, err := New(n, f); c != nil || err != arg {
				t.Errorf("New(%d, %d): got %v, %d", n, f, c, err)
			}
		}
	}
	if third*3 >= 0 || (third+1)*3 != 2 || (third+2)*3 != 5 {
		t.Error("the test is wrong: 3f does not wrap around")
	}
}

// P14.1, P14.3: of a new broadcast nothing is delivered, no two texts were seen, and whatever comes first is the first of it.
func TestNewHasNothing(t *testing.T) {
	for _, k := range clusters {
		c, m := castOf(t, k)
		told(t, "new", c, "", false, false)
		told(t, "asked again", c, "", false, false)
		check(t, "new", c, m)
		for from := range k.n {
			c, m := castOf(t, k)
			take(t, "the first one", c, m, ini(from, "x"), echoes("x"))
			told(t, "the first one", c, "", false, false)
		}
	}
}

// P14.2, P0: what is of no worker, or of no kind, is ignored: it leads to nothing, and does not count later on.
func TestIgnored(t *testing.T) {
	for _, k := range clusters {
		for _, kind := range ends {
			for _, from := range ends {
				if slices.Contains(kinds, kind) && from >= 0 && from < k.n {
					continue
				}
				c, m := castOf(t, k)
				for range 3 {
					take(t, "ignored", c, m, input{kind, from, "x"}, nil)
					take(t, "ignored", c, m, input{kind, from, "y"}, nil)
				}
				told(t, "ignored", c, "", false, false)
				runThrough(t, "what was ignored ahead", c, m, "x")
			}
		}
	}
}

// runThrough takes an FInit, echoes and readies of a text, of which nothing was received before.
func runThrough(t *testing.T, what string, c *Cast, m *plain, text string) {
	t.Helper()
	take(t, what, c, m, ini(m.n-1, text), echoes(text))
	for k := range m.n {
		var want []api.Frame
		if k == m.quorum-1 {
			want = readies(text)
		}
		take(t, what, c, m, echo(k, text), want)
	}
	for k := range m.n {
		take(t, what, c, m, ready(k, text), nil)
		isDone := k >= 2*m.f
		told(t, what, c, textIf(isDone, text), isDone, false)
	}
}

// P14.2: just what is a worker, and just what is none, of each kind, written out; everything else of it would lead to something.
func TestFromJustWithin(t *testing.T) {
	cases := []struct {
		k        cluster
		from     int
		isWorker bool
	}{
		{four, -1, false}, {four, 0, true}, {four, 3, true}, {four, 4, false}, {four, 5, false}, {four, 6, false}, {four, 7, false}, {four, math.MinInt, false}, {four, math.MaxInt, false},
		{cluster{1, 0, 1}, -1, false}, {cluster{1, 0, 1}, 0, true}, {cluster{1, 0, 1}, 1, false}, {cluster{2, 0, 2}, 1, true}, {cluster{2, 0, 2}, 2, false},
		{seven, -1, false}, {seven, 0, true}, {seven, 6, true}, {seven, 7, false}, {seven, 8, false},
	}
	for _, x := range cases {
		if isWorker := x.from >= 0 && x.from <= x.k.n-1; isWorker != x.isWorker {
			t.Errorf("the test is wrong: %v", x)
		}
		want := func(l []api.Frame) []api.Frame {
			if x.isWorker {
				return l
			}
			return nil
		}
		c, m := castOf(t, x.k)
		take(t, "FInit", c, m, ini(x.from, "x"), want(echoes("x")))
		c, m = castOf(t, x.k)
		for k := 0; m.of(fEcho, "x") < x.k.quorum-1; k++ {
			if k != x.from {
				take(t, "echoes", c, m, echo(k, "x"), nil)
			}
		}
		take(t, "FEcho", c, m, echo(x.from, "x"), want(readies("x")))
		c, m = castOf(t, x.k)
		for k := 0; m.of(fReady, "x") < x.k.f; k++ {
			if k != x.from {
				take(t, "readies", c, m, ready(k, "x"), nil)
			}
		}
		take(t, "FReady", c, m, ready(x.from, "x"), want(readies("x")))
	}
}

// P14.2: kinds that are none of the three are ignored, also where an echo or a ready more would lead to something.
func TestOtherKinds(t *testing.T) {
	for _, kind := range []int{0, -1, fAccuse, 5, 6, 7, 8, 256 + fInit, 256 + fEcho, 1<<32 + fReady, math.MinInt, math.MaxInt, -fInit, -fEcho, -fReady} {
		c, m := castOf(t, four, echo(0, "x"), echo(1, "x"), ready(0, "x"))
		for from := range 4 {
			take(t, "another kind", c, m, input{kind, from, "x"}, nil)
		}
		told(t, "another kind", c, "", false, false)
		take(t, "an echo", c, m, echo(2, "x"), readies("x"))
		take(t, "a ready", c, m, ready(1, "x"), nil)
		for from := range 4 {
			take(t, "another kind", c, m, input{kind, from, "x"}, nil)
		}
		told(t, "another kind", c, "", false, false)
		take(t, "another ready", c, m, ready(2, "x"), nil)
		told(t, "another ready", c, "x", true, false)
		take(t, "an init", c, m, ini(0, "x"), echoes("x"))
	}
}

// P14.2, P14.3: an FInit of what is no worker does not count in Two either, ahead of, between and behind those that count.
func TestTwoIgnoresNoWorkers(t *testing.T) {
	for _, k := range clusters {
		c, m := castOf(t, k)
		for _, from := range []int{-1, k.n, k.n + 1, most, most + 1, math.MinInt, math.MaxInt} {
			take(t, "no worker, first", c, m, ini(from, "y"), nil)
			take(t, "no worker, first", c, m, ini(from, "z"), nil)
		}
		told(t, "no worker, first", c, "", false, false)
		take(t, "a worker", c, m, ini(0, "x"), echoes("x"))
		for _, from := range []int{-1, k.n, k.n + 1, most, most + 1, math.MinInt, math.MaxInt} {
			take(t, "no worker, second", c, m, ini(from, "y"), nil)
		}
		told(t, "no worker, second", c, "", false, false)
		take(t, "a worker", c, m, ini(k.n-1, "y"), nil)
		told(t, "a worker", c, "", false, true)
	}
}

// P14.2, P14.3: the same FInit again, by the same worker and by another one: no second FEcho, and no two texts; then another one, which stays.
func TestInitTwice(t *testing.T) {
	for _, k := range clusters {
		for _, first := range texts {
			for _, second := range texts {
				if first == second {
					continue
				}
				c, m := castOf(t, k)
				take(t, "first", c, m, ini(0, first), echoes(first))
				for from := range k.n {
					take(t, "the same", c, m, ini(from, first), nil)
				}
				told(t, "the same", c, "", false, false)
				take(t, "another one", c, m, ini(0, second), nil)
				told(t, "another one", c, "", false, true)
				take(t, "the first one", c, m, ini(0, first), nil)
				told(t, "the first one", c, "", false, true)
				take(t, "another one", c, m, ini(k.n-1, second), nil)
				take(t, "a third one", c, m, ini(0, "third"), nil)
				told(t, "a third one", c, "", false, true)
			}
		}
	}
}

// P14.3: only FInits make two texts: neither echoes nor readies do, among each other or beside an FInit; and Two stays, whatever comes.
func TestTwoIsOfInits(t *testing.T) {
	c, m := castOf(t, seven)
	for from := range 7 {
		takeAny(t, "echoes and readies", c, m, echo(from, texts[from]))
		takeAny(t, "echoes and readies", c, m, ready(from, texts[from+1]))
		told(t, "echoes and readies", c, "", false, false)
	}
	take(t, "an init", c, m, ini(0, "x"), echoes("x"))
	takeAny(t, "beside an init", c, m, echo(0, "y"))
	takeAny(t, "beside an init", c, m, ready(0, "y"))
	told(t, "beside an init", c, "", false, false)
	take(t, "another init", c, m, ini(0, "y"), nil)
	for from := range 7 {
		takeAny(t, "behind it", c, m, ini(from, "x"))
		takeAny(t, "behind it", c, m, echo(from, "x"))
		takeAny(t, "behind it", c, m, ready(from, "x"))
		told(t, "behind it", c, "", false, true)
	}
}

// P14.2, P14.3: the empty text is one like all others: it is echoed once, counted and delivered, and is not that of no FInit.
func TestEmptyText(t *testing.T) {
	for _, k := range clusters {
		c, m := castOf(t, k)
		runThrough(t, "the empty text", c, m, "")
		told(t, "the empty text", c, "", true, false)
		take(t, "again", c, m, ini(0, ""), nil)
		take(t, "another text", c, m, ini(0, "x"), nil)
		told(t, "another text", c, "", true, true)
		for from := range k.n {
			take(t, "readies of another one", c, m, ready(from, "x"), nil)
		}
		told(t, "readies of another one", c, "", true, true)
		c, m = castOf(t, k)
		take(t, "a text", c, m, ini(0, "x"), echoes("x"))
		take(t, "the empty one", c, m, ini(0, ""), nil)
		told(t, "the empty one", c, "", false, true)
	}
}

// P14.2: a second FEcho of a worker is ignored, of the same text and of another one: it counts for neither.
func TestEchoTwice(t *testing.T) {
	c, m := castOf(t, four)
	take(t, "an echo", c, m, echo(0, "x"), nil)
	for range 4 {
		take(t, "the same", c, m, echo(0, "x"), nil)
	}
	take(t, "of another worker", c, m, echo(1, "x"), nil)
	for range 4 {
		take(t, "the same", c, m, echo(1, "x"), nil)
		take(t, "the same", c, m, echo(0, "x"), nil)
		take(t, "another text", c, m, echo(0, "y"), nil)
		take(t, "another text", c, m, echo(1, "y"), nil)
	}
	take(t, "one of the other text", c, m, echo(2, "y"), nil)
	take(t, "another worker, too late", c, m, echo(2, "x"), nil)
	take(t, "a third one", c, m, echo(3, "x"), readies("x"))

	c, m = castOf(t, four)
	for k := range 3 {
		take(t, "first", c, m, echo(k, texts[k]), nil)
	}
	for range 2 {
		for k := range 3 {
			for j := range 3 {
				take(t, "second", c, m, echo(k, texts[j]), nil)
			}
		}
	}
	take(t, "the last worker", c, m, echo(3, texts[0]), nil)
	take(t, "all have echoed", c, m, echo(1, texts[0]), nil)
}

// P14.2: a second FReady of a worker is ignored, of the same text and of another one, both for an FReady and for the delivery.
func TestReadyTwice(t *testing.T) {
	c, m := castOf(t, four)
	take(t, "a ready", c, m, ready(0, "x"), nil)
	for range 4 {
		take(t, "the same", c, m, ready(0, "x"), nil)
		take(t, "another text", c, m, ready(0, "y"), nil)
	}
	take(t, "of the other text", c, m, ready(1, "y"), nil)
	take(t, "too late", c, m, ready(1, "x"), nil)
	take(t, "another worker", c, m, ready(2, "x"), readies("x"))
	for range 4 {
		for k := range 3 {
			take(t, "the same", c, m, ready(k, "x"), nil)
			take(t, "another text", c, m, ready(k, "y"), nil)
		}
	}
	told(t, "two readies", c, "", false, false)
	take(t, "the third one", c, m, ready(3, "x"), nil)
	told(t, "the third one", c, "x", true, false)
}

// P14.2: a worker has an echo and a ready, which don't take each other's place, and need not agree.
func TestEchoAndReadyAreApart(t *testing.T) {
	c, m := castOf(t, four)
	take(t, "its ready", c, m, ready(0, "x"), nil)
	take(t, "its echo", c, m, echo(0, "x"), nil)
	take(t, "an echo", c, m, echo(1, "x"), nil)
	take(t, "the third echo", c, m, echo(2, "x"), readies("x"))
	take(t, "ready of another text", c, m, ready(1, "y"), nil)
	take(t, "ready", c, m, ready(2, "x"), nil)
	told(t, "two readies", c, "", false, false)
	take(t, "ready", c, m, ready(3, "x"), nil)
	told(t, "three readies", c, "x", true, false)
}

// P14.2: echoes and readies of a text don't add up: a QUORUM less one of echoes and f readies are not enough, and no echo counts for the delivery.
func TestEchoesAndReadiesDoNotAddUp(t *testing.T) {
	for _, k := range clusters {
		c, m := castOf(t, k)
		for i := range k.quorum - 1 {
			take(t, "echoes", c, m, echo(i, "x"), nil)
		}
		for i := range k.f {
			take(t, "readies", c, m, ready(k.n-1-i, "x"), nil)
		}
		told(t, "neither is enough", c, "", false, false)
		takeAny(t, "an init", c, m, ini(0, "x"))
		told(t, "nor an init", c, "", false, false)
		c, m = castOf(t, k)
		for i := range k.n {
			takeAny(t, "all echoes", c, m, echo(i, "x"))
		}
		for i := range 2 * k.f {
			take(t, "readies", c, m, ready(i, "x"), nil)
		}
		told(t, "echoes of all, 2f readies", c, "", false, false)
	}
}

// P14.2: echoes of unlike texts don't count together, however alike these are; nor do readies.
func TestUnlikeTexts(t *testing.T) {
	c, m := castOf(t, seven)
	for k := range 7 {
		take(t, "echoes", c, m, echo(k, texts[k]), nil)
		take(t, "readies", c, m, ready(k, texts[len(texts)-1-k]), nil)
	}
	told(t, "all unlike", c, "", false, false)
	for _, pair := range [][2]string{{"x", "y"}, {"", "\x00"}, {"a", "a\x00"}, {"a", "A"}, {"a", "aa"}, {"\xff", "\xfe"}, {"\xc3\xa9", "e\xcc\x81"}, {strings.Repeat("a", 400), strings.Repeat("a", 399) + "b"}, {strings.Repeat("a", 400), strings.Repeat("a", 399)}} {
		c, m := castOf(t, seven)
		for k := range 4 {
			take(t, "echoes of one", c, m, echo(k, pair[0]), nil)
		}
		for k := range 3 {
			take(t, "echoes of the other", c, m, echo(4+k, pair[1]), nil)
		}
		for k := range 2 {
			take(t, "readies of one", c, m, ready(k, pair[0]), nil)
			take(t, "readies of the other", c, m, ready(2+k, pair[1]), nil)
		}
		take(t, "three readies", c, m, ready(4, pair[1]), readies(pair[1]))
		take(t, "three readies of the other", c, m, ready(5, pair[0]), nil)
		take(t, "four readies", c, m, ready(6, pair[0]), nil)
		told(t, "four and three readies", c, "", false, false)
	}
}

// P14.2: one echo less than a QUORUM, and a QUORUM, of each n and f, for all sets of workers.
func TestQuorum(t *testing.T) {
	for _, k := range clusters {
		if k.quorum != int(math.Floor(float64(k.n+k.f)/2))+1 {
			t.Errorf("the test is wrong: %v", k)
		}
		for set := range 1 << k.n {
			c, m := castOf(t, k)
			n := 0
			for from := range k.n {
				if set>>from&1 == 0 {
					continue
				}
				n++
				var want []api.Frame
				if n == k.quorum {
					want = readies("x")
				}
				take(t, "a quorum", c, m, echo(from, "x"), want)
			}
			told(t, "a quorum", c, "", false, false)
		}
	}
}

// P14.2: f readies and f + 1, 2f readies and 2f + 1, of each n and f, for all sets of workers.
func TestReadies(t *testing.T) {
	for _, k := range clusters {
		for set := range 1 << k.n {
			c, m := castOf(t, k)
			n := 0
			for from := range k.n {
				if set>>from&1 == 0 {
					continue
				}
				n++
				var want []api.Frame
				if n == k.f+1 {
					want = readies("x")
				}
				take(t, "readies", c, m, ready(from, "x"), want)
				isDone := n >= 2*k.f+1
				told(t, "readies", c, textIf(isDone, "x"), isDone, false)
			}
		}
	}
}

// P14.2: how many are enough, written out.
func TestEnoughWrittenOut(t *testing.T) {
	c, m := castOf(t, cluster{3, 0, 2})
	take(t, "f 0, one echo", c, m, echo(2, "x"), nil)
	take(t, "f 0, two echoes", c, m, echo(0, "x"), readies("x"))
	told(t, "f 0, two echoes", c, "", false, false)
	take(t, "f 0, one ready", c, m, ready(1, "x"), nil)
	told(t, "f 0, one ready", c, "x", true, false)
	c, m = castOf(t, cluster{3, 0, 2})
	take(t, "f 0, one ready", c, m, ready(1, "x"), readies("x"))
	told(t, "f 0, one ready", c, "x", true, false)

	c, m = castOf(t, cluster{7, 1, 5})
	for from := range 4 {
		take(t, "f 1, four echoes", c, m, echo(from, "x"), nil)
	}
	take(t, "f 1, five echoes", c, m, echo(4, "x"), readies("x"))
	take(t, "f 1, one ready", c, m, ready(0, "x"), nil)
	take(t, "f 1, two readies", c, m, ready(1, "x"), nil)
	told(t, "f 1, two readies", c, "", false, false)
	take(t, "f 1, three readies", c, m, ready(2, "x"), nil)
	told(t, "f 1, three readies", c, "x", true, false)

	c, m = castOf(t, seven)
	take(t, "f 2, one ready", c, m, ready(6, "x"), nil)
	take(t, "f 2, two readies", c, m, ready(4, "x"), nil)
	take(t, "f 2, three readies", c, m, ready(2, "x"), readies("x"))
	take(t, "f 2, four readies", c, m, ready(0, "x"), nil)
	told(t, "f 2, four readies", c, "", false, false)
	take(t, "f 2, five readies", c, m, ready(1, "x"), nil)
	told(t, "f 2, five readies", c, "x", true, false)
}

// P14.2, P14.4: there is no second FReady, neither for the readies of a text that had its QUORUM, nor for those of another text, nor for another QUORUM.
func TestNoSecondReady(t *testing.T) {
	for _, k := range clusters {
		for _, other := range []string{"x", "a", "z", ""} {
			c, m := castOf(t, k)
			for from := range k.quorum {
				takeAny(t, "a quorum", c, m, echo(from, "x"))
			}
			for from := range k.n {
				take(t, "behind the ready", c, m, echo(from, other), nil)
				take(t, "behind the ready", c, m, ready(from, other), nil)
				take(t, "behind the ready", c, m, ready(from, "x"), nil)
			}
			c, m = castOf(t, k)
			for from := range k.f + 1 {
				takeAny(t, "f + 1 readies", c, m, ready(from, "x"))
			}
			for from := range k.n {
				take(t, "a quorum behind the ready", c, m, echo(from, other), nil)
			}
			for from := range k.n {
				take(t, "behind the ready", c, m, ready(from, other), nil)
			}
		}
	}
}

// P14.2: with n 7 and f 2, two texts can have f + 1 readies each; with f 0, as many as there are workers. Only the first one gets an FReady, be it the least or not.
func TestTwoTextsOfEnoughReadies(t *testing.T) {
	for _, x := range [][2]string{{"a", "b"}, {"b", "a"}} {
		c, m := castOf(t, seven, ready(0, x[0]), ready(1, x[1]), ready(2, x[0]), ready(3, x[1]))
		take(t, "the first text", c, m, ready(4, x[0]), readies(x[0]))
		take(t, "the second text", c, m, ready(5, x[1]), nil)
		take(t, "an init", c, m, ini(0, x[1]), echoes(x[1]))
		told(t, "three and three readies", c, "", false, false)

		c, m = castOf(t, cluster{7, 0, 4})
		take(t, "f 0, the first text", c, m, ready(0, x[0]), readies(x[0]))
		for from := 1; from < 7; from++ {
			take(t, "f 0, the second text", c, m, ready(from, x[1]), nil)
			told(t, "f 0, the second text", c, x[0], true, false)
		}
	}
}

// P14.2, P14.3: one text can have its QUORUM, or be echoed, and another one its 2f + 1 readies: that one is delivered.
func TestDeliveredTextIsThatOfReadies(t *testing.T) {
	c, m := castOf(t, four)
	take(t, "init", c, m, ini(0, "a"), echoes("a"))
	take(t, "echoes", c, m, echo(0, "a"), nil)
	take(t, "echoes", c, m, echo(1, "a"), nil)
	take(t, "echoes", c, m, echo(2, "a"), readies("a"))
	take(t, "readies of another one", c, m, ready(1, "b"), nil)
	take(t, "readies of another one", c, m, ready(2, "b"), nil)
	told(t, "two readies", c, "", false, false)
	take(t, "readies of another one", c, m, ready(3, "b"), nil)
	told(t, "three readies", c, "b", true, false)
}

// P14.2, P14.4: an FInit that comes last is echoed like one that comes first, and leads to no other frame; so does the first one behind the delivery.
func TestInitComesLast(t *testing.T) {
	for _, k := range clusters {
		for _, text := range []string{"x", "a", "z", ""} {
			for _, isDone := range []bool{false, true} {
				c, m := castOf(t, k)
				for from := range k.n {
					takeAny(t, "echoes", c, m, echo(from, "x"))
				}
				for from := 0; isDone && from < k.n; from++ {
					take(t, "readies", c, m, ready(from, "x"), nil)
				}
				take(t, "the init", c, m, ini(0, text), echoes(text))
				take(t, "again", c, m, ini(0, text), nil)
				told(t, "again", c, textIf(isDone, "x"), isDone, false)
			}
		}
	}
}

// P14.2: as each call returns an FReady as soon as there are enough echoes or readies, none is left for an FInit: no call returns two frames. But an FReady and the delivery come in one.
func TestNeverTwoFrames(t *testing.T) {
	for _, x := range []struct {
		k     cluster
		depth int
	}{{cluster{1, 0, 1}, 6}, {cluster{2, 0, 2}, 4}, {cluster{3, 0, 2}, 3}, {four, 3}} {
		forEach(x.k, x.depth, []string{"a", "b"}, func(all []input) {
			c, _ := New(x.k.n, x.k.f)
			var kinds []int
			for _, i := range all {
				got := i.call(c)
				if len(got) > 1 {
					t.Fatalf("%v: %v: got %v", x.k, all, show(got))
				}
				for _, f := range got {
					kinds = append(kinds, f.Kind)
				}
			}
			slices.Sort(kinds)
			if len(slices.Compact(slices.Clone(kinds))) != len(kinds) {
				t.Fatalf("%v: %v: got the kinds %v", x.k, all, kinds)
			}
		})
	}
	c, m := castOf(t, cluster{2, 0, 2})
	take(t, "a ready and the delivery", c, m, ready(0, "x"), readies("x"))
	told(t, "a ready and the delivery", c, "x", true, false)
}

// P14.2: if there were a text with enough echoes or readies and no FReady yet, an FInit would return an FEcho and an FReady, in this order, and nothing later would return one more. No calls lead there either.
func TestEchoComesAheadOfReady(t *testing.T) {
	for _, text := range []string{"a", "x", "z"} {
		for _, isEcho := range []bool{true, false} {
			c, _ := castOf(t, four)
			if isEcho {
				c.echoes = votes{"x": {true, true, false, true}}
			} else {
				c.readies = votes{"x": {true, false, true}}
			}
			want := append(echoes(text), readies("x")...)
			if got := c.Take(fInit, 0, text); !slices.Equal(got, want) {
				t.Errorf("got %v, want %v", show(got), show(want))
			}
			for _, other := range []string{"x", text, "b"} {
				for _, kind := range kinds {
					for from := range 4 {
						if got := c.Take(kind, from, other); len(got) != 0 {
							t.Errorf("%v: got %v", input{kind, from, other}, show(got))
						}
					}
				}
			}
		}
	}
}

// forEach calls f with all sequences of up to so many inputs of a cluster's workers.
func forEach(k cluster, depth int, texts []string, f func(all []input)) {
	var steps []input
	for _, kind := range kinds {
		for from := range k.n {
			for _, text := range texts {
				steps = append(steps, input{kind, from, text})
			}
		}
	}
	var walk func(all []input)
	walk = func(all []input) {
		f(all)
		if len(all) == depth {
			return
		}
		for _, i := range steps {
			walk(append(slices.Clone(all), i))
		}
	}
	walk(nil)
}

// P14.2, P14.3: a broadcast of one worker says and delivers all by itself.
func TestSingleWorker(t *testing.T) {
	for _, text := range texts {
		c, m := castOf(t, cluster{1, 0, 1})
		take(t, "init", c, m, ini(0, text), echoes(text))
		told(t, "init", c, "", false, false)
		take(t, "echo", c, m, echo(0, text), readies(text))
		told(t, "echo", c, "", false, false)
		take(t, "ready", c, m, ready(0, text), nil)
		told(t, "ready", c, text, true, false)
		for _, kind := range kinds {
			take(t, "again", c, m, input{kind, 0, text}, nil)
			take(t, "of another worker", c, m, input{kind, 1, text}, nil)
		}
		told(t, "again", c, text, true, false)
		c, m = castOf(t, cluster{1, 0, 1})
		take(t, "ready first", c, m, ready(0, text), readies(text))
		told(t, "ready first", c, text, true, false)
		take(t, "echo", c, m, echo(0, text), nil)
		take(t, "init", c, m, ini(0, text), echoes(text))
		told(t, "init", c, text, true, false)
	}
}

// P14.3, P14.4: a delivered text stays as it is, whatever comes afterwards, of lesser texts and of greater ones.
func TestDeliveredStays(t *testing.T) {
	r := rand.New(rand.NewSource(1))
	for _, k := range clusters {
		for _, text := range texts {
			c, m := castOf(t, k)
			for from := range 2*k.f + 1 {
				takeAny(t, "readies", c, m, ready(from, text))
			}
			told(t, "readies", c, text, true, false)
			for from := -1; from <= k.n; from++ {
				for _, other := range []string{"", "a", "\xff"} {
					takeAny(t, "afterwards", c, m, ready(from, other))
					takeAny(t, "afterwards", c, m, echo(from, other))
				}
			}
			told(t, "afterwards", c, text, true, false)
			for range 20 {
				takeAny(t, "afterwards", c, m, someInput(r, k.n))
				if got, is := c.Done(); got != text || !is {
					t.Errorf("%v: %q: Done: got %q, %v", k, text, got, is)
				}
			}
		}
	}
}

// someInput is one that has a good chance of leading to something.
func someInput(r *rand.Rand, n int) input {
	i := input{kinds[r.Intn(3)], r.Intn(n), []string{"a", "a", "a", "b", ""}[r.Intn(5)]}
	switch r.Intn(16) {
	case 0:
		i.kind = ends[r.Intn(len(ends))]
	case 1:
		i.from = ends[r.Intn(len(ends))]
	case 2:
		i.text = texts[r.Intn(len(texts))]
	}
	return i
}

// P14.2, R1: each frame that is returned has only a Kind and a Text.
func TestFramesHaveKindAndTextAlone(t *testing.T) {
	r := rand.New(rand.NewSource(2))
	seen := map[int]int{}
	for range 500 {
		k := clusters[r.Intn(len(clusters))]
		c, _ := castOf(t, k)
		for range 30 {
			for _, f := range someInput(r, k.n).call(c) {
				seen[f.Kind]++
				if f != (api.Frame{Kind: f.Kind, Text: f.Text}) {
					t.Errorf("got %v", show([]api.Frame{f}))
				}
			}
		}
	}
	if len(seen) != 2 || seen[fEcho] == 0 || seen[fReady] == 0 {
		t.Errorf("got the kinds %v", seen)
	}
}

// P14.2: texts of any bytes and of any length are taken, also beyond what a frame may have, which is not this layer's matter.
func TestAnyText(t *testing.T) {
	every := make([]byte, 256)
	for i := range every {
		every[i] = byte(i)
	}
	for _, text := range append(slices.Clone(texts), string(every), strings.Repeat("\xff", 399), strings.Repeat("x", 400), strings.Repeat("x", 401), strings.Repeat("long", 1<<18), "a\xffb", "\u00e9\u4e16") {
		c, m := castOf(t, four)
		runThrough(t, "any text", c, m, text)
	}
}

// P14.2: of any two texts the one that has enough first gets the FReady and is delivered, be it the lesser one or the greater one.
func TestFirstOfTwoTexts(t *testing.T) {
	for _, first := range texts {
		for _, second := range texts {
			c, m := castOf(t, cluster{3, 0, 2})
			take(t, "an echo", c, m, echo(0, first), nil)
			take(t, "a ready of the first text", c, m, ready(1, first), readies(first))
			take(t, "a ready of the second text", c, m, ready(0, second), nil)
			take(t, "an echo of the second text", c, m, echo(1, second), nil)
			take(t, "another echo of it", c, m, echo(2, second), nil)
			told(t, "both", c, first, true, false)
		}
	}
}

// R3: what a caller writes into a result, or behind its end, reaches neither the broadcast nor another result; and a result stays as it was.
func TestResultsAreTheCallersOwn(t *testing.T) {
	spoil := func(l []api.Frame) {
		l = l[:cap(l)]
		for i := range l {
			l[i] = api.Frame{Kind: fReady, From: 9, To: 9, Origin: 9, Seq: 9, Text: "spoilt"}
		}
	}
	for _, text := range []string{"x", ""} {
		spoilt, m := castOf(t, four)
		other, _ := castOf(t, four)
		var kept, wanted [][]api.Frame
		for _, i := range []input{ini(0, text), ini(0, text), echo(0, text), echo(1, text), echo(2, text), echo(3, text), ready(0, text), ready(1, text), ready(2, text)} {
			want := m.wantTake(i)
			got := i.call(spoilt)
			if !slices.Equal(got, want) {
				t.Errorf("%v: got %v, want %v", i, show(got), show(want))
			}
			spoil(got)
			check(t, "spoilt", spoilt, m)
			kept, wanted = append(kept, i.call(other)), append(wanted, want)
		}
		told(t, "spoilt", spoilt, text, true, false)
		for i := range kept {
			if !slices.Equal(kept[i], wanted[i]) {
				t.Errorf("result %d: got %v, want %v", i, show(kept[i]), show(wanted[i]))
			}
		}
	}
}

// R3: a text is not kept, but a copy of it: no result shares memory with one that was handed in, and a longer text of which it was a piece isn't kept with it.
func TestTextsAreCopied(t *testing.T) {
	whole := strings.Repeat("abcdefgh", 1<<10)
	text := whole[8:40]
	from := uintptr(unsafe.Pointer(unsafe.StringData(whole)))
	apart := func(what, s string) {
		t.Helper()
		if at := uintptr(unsafe.Pointer(unsafe.StringData(s))); at >= from && at < from+uintptr(len(whole)) {
			t.Errorf("%s shares memory with what was handed in", what)
		}
		if s != text {
			t.Errorf("%s: got %q", what, s)
		}
	}
	c, _ := castOf(t, cluster{1, 0, 1})
	for _, kind := range kinds {
		for _, f := range c.Take(kind, 0, text) {
			apart("a frame", f.Text)
		}
	}
	s, _ := c.Done()
	apart("the delivered text", s)
	apart("the text of the init", c.said.text)
	for _, v := range []votes{c.echoes, c.readies} {
		for s := range v {
			apart("a text that is kept", s)
		}
	}
}

// P14.2: of several texts at which there are enough workers the least one is taken, bytewise. No calls lead there, as each call brings one worker to one text: so the votes are made here.
func TestLeast(t *testing.T) {
	for a, first := range texts {
		for b, second := range texts {
			v := votes{"": {}, "\x00": {true}, "m": {6: true}}
			v[first], v[second] = senders{true, false, true}, senders{false, false, false, true, true, false, true}
			want := texts[min(a, b)]
			for range 5 {
				if got := v.least(2); !got.is || got.text != want {
					t.Errorf("%q and %q: got %q, %v", first, second, got.text, got.is)
				}
			}
			if got := v.least(4); got != (maybe{}) {
				t.Errorf("%q and %q: got %q, %v", first, second, got.text, got.is)
			}
			one, other, none := maybe{first, true}, maybe{second, true}, maybe{}
			if lesser(one, other) != (maybe{want, true}) || lesser(one, none) != one || lesser(none, one) != one || lesser(none, none) != none {
				t.Errorf("%q and %q: got %v, %v and %v", first, second, lesser(one, other), lesser(one, none), lesser(none, one))
			}
		}
	}
}

// R4: asking changes nothing, and tells the same twice.
func TestTellingChangesNothing(t *testing.T) {
	r := rand.New(rand.NewSource(3))
	for range 200 {
		k := clusters[r.Intn(len(clusters))]
		asked, m := castOf(t, k)
		other, _ := castOf(t, k)
		for range 30 {
			for range 3 {
				check(t, "asked", asked, m)
			}
			i := someInput(r, k.n)
			want := m.wantTake(i)
			if a, b := i.call(asked), i.call(other); !slices.Equal(a, want) || !slices.Equal(b, want) {
				t.Errorf("%v: %v: got %v, and %v of one that is not asked, want %v", k, m.all, show(a), show(b), show(want))
			}
		}
		check(t, "not asked", other, m)
	}
}

// P14.1: two broadcasts share nothing.
func TestCastsAreApart(t *testing.T) {
	a, m := castOf(t, four)
	b, k := castOf(t, seven)
	c, n := castOf(t, four)
	take(t, "one", a, m, ini(0, "x"), echoes("x"))
	take(t, "the second one", b, k, ini(0, "y"), echoes("y"))
	for from := range 3 {
		takeAny(t, "one", a, m, echo(from, "x"))
		takeAny(t, "one", a, m, ready(from, "x"))
	}
	check(t, "the second one", b, k)
	check(t, "the third one", c, n)
	told(t, "the third one", c, "", false, false)
	runThrough(t, "the third one", c, n, "z")
	runThroughRest(t, b, k, "y")
	told(t, "the first one", a, "x", true, false)
	told(t, "the second one", b, "y", true, false)
	told(t, "the third one", c, "z", true, false)
}

// runThroughRest takes echoes and readies of all workers.
func runThroughRest(t *testing.T, c *Cast, m *plain, text string) {
	t.Helper()
	for from := range m.n {
		takeAny(t, "the rest", c, m, echo(from, text))
	}
	for from := range m.n {
		takeAny(t, "the rest", c, m, ready(from, text))
	}
}

// P14.2, P14.3 by their words: anything at random, step by step.
func TestByChance(t *testing.T) {
	r := rand.New(rand.NewSource(4))
	done := 0
	for range 2000 {
		k := clusters[r.Intn(len(clusters))]
		c, m := castOf(t, k)
		for range 40 {
			takeAny(t, "by chance", c, m, someInput(r, k.n))
		}
		if m.isDone {
			done++
		}
	}
	if done < 200 {
		t.Errorf("the test is wrong: %d are delivered", done)
	}
}

// P14.2, P14.3 by their words: all sequences of a few steps.
func TestSmallCasts(t *testing.T) {
	for _, x := range []struct {
		k     cluster
		depth int
		texts []string
	}{
		{cluster{1, 0, 1}, 4, []string{"", "a", "b"}}, {cluster{2, 0, 2}, 4, []string{"a", "b"}}, {cluster{3, 0, 2}, 3, []string{"b", "a"}}, {four, 3, []string{"", "a"}}, {four, 5, []string{"a"}},
	} {
		forEach(x.k, x.depth, x.texts, func(all []input) {
			c, _ := New(x.k.n, x.k.f)
			m := &plain{cluster: x.k}
			for _, i := range all {
				if got, want := i.call(c), m.wantTake(i); !slices.Equal(got, want) {
					t.Fatalf("%v: %v: %v: got %v, want %v", x.k, all, i, show(got), show(want))
				}
			}
			check(t, "a small broadcast", c, m)
		})
	}
}

// R4: a result does not depend on how the maps are gone through: the same, many times over.
func TestResultsRepeat(t *testing.T) {
	r := rand.New(rand.NewSource(5))
	for range 20 {
		k := clusters[r.Intn(len(clusters))]
		all := make([]input, 60)
		for i := range all {
			all[i] = someInput(r, k.n)
			all[i].text = texts[r.Intn(4)]
		}
		var first []api.Frame
		for again := range 50 {
			c, _ := New(k.n, k.f)
			var got []api.Frame
			for _, i := range all {
				got = append(got, i.call(c)...)
			}
			text, is := c.Done()
			got = append(got, api.Frame{Text: text})
			if is {
				got = append(got, api.Frame{})
			}
			if again == 0 {
				first = got
			} else if !slices.Equal(got, first) {
				t.Fatalf("%v: %v: got %v, and %v the first time", k, all, show(got), show(first))
			}
		}
	}
}

// R4, R5: broadcasts that are used by a goroutine each don't disturb one another.
func TestTogether(t *testing.T) {
	var all sync.WaitGroup
	for i := range 8 {
		c, m := castOf(t, clusters[4+i])
		r := rand.New(rand.NewSource(int64(i)))
		all.Go(func() {
			for range 200 {
				i := someInput(r, m.n)
				if got, want := i.call(c), m.wantTake(i); !slices.Equal(got, want) {
					t.Errorf("%v: got %v, want %v", i, show(got), show(want))
				}
				check(t, "together", c, m)
			}
		})
	}
	all.Wait()
}

// P0, P14.1 to P14.3: any calls at all; two bytes are the n and the f, and each three behind them something that is taken.
func FuzzCast(f *testing.F) {
	f.Add([]byte{4, 1, 1, 0, 7, 2, 0, 7, 2, 1, 7, 2, 2, 7, 3, 0, 7, 3, 1, 7, 3, 2, 7})
	f.Add([]byte{})
	f.Add([]byte{7, 2, 3, 0, 0, 3, 1, 1, 3, 2, 0, 3, 3, 1, 3, 4, 0, 3, 5, 1, 1, 0, 0, 1, 0, 1})
	f.Add([]byte{255, 240, 0, 0, 0})
	f.Add([]byte{1, 0, 1, 0, 0, 2, 0, 0, 3, 0, 0, 1, 255, 1, 240, 0, 1, 1, 0, 9})
	part := func(n byte) int {
		if int(n) < 256-len(ends) {
			return int(n % 9)
		}
		return ends[int(n)-(256-len(ends))]
	}
	f.Fuzz(func(t *testing.T, code []byte) {
		if len(code) < 2 {
			return
		}
		n, faulty := part(code[0]), part(code[1])
		c, err := New(n, faulty)
		at := slices.IndexFunc(clusters, func(k cluster) bool { return k.n == n && k.f == faulty })
		if at < 0 {
			if c != nil || err != arg {
				t.Errorf("New(%d, %d): got %v, %d", n, faulty, c, err)
			}
			return
		}
		m := &plain{cluster: clusters[at]}
		// Each step is held against all that was received, so that the time grows with the square of their number.
		for code = code[2:min(len(code), 300)]; len(code) >= 3; code = code[3:] {
			takeAny(t, "behind a call", c, m, input{part(code[0]), part(code[1]), texts[int(code[2])%len(texts)]})
		}
	})
}
