package bus_test

import (
	"math"
	"slices"
	"testing"

	"bellows/api"
	"bellows/bus"
)

// shape is that of the buses of these tests: of four lines one forgets.
var shape = api.Config{Cores: 3, Lines: 4, Volatile: 1, Sets: 1, Ways: 2, Queue: 2, Store: 2}

// far are numbers of no kind, no core, no line and no word; some come to good ones where bits are lost.
var far = []int{math.MinInt, math.MinInt + 1, -1 << 32, -1<<32 + 3, -256, -255, -64, -15, -8, -2, -1, 15, 16, 64, 65, 128, 256, 257, 1 << 31, 1 << 32, 1<<32 + 1, 1<<32 + 12, math.MaxInt - 1, math.MaxInt}

// word is what a word of the image has.
func word(line, w int) uint64 { return uint64(1000*line + w + 500) }

// image is so many lines, of which each word has its own number.
func image(lines int) []api.Line {
	img := make([]api.Line, max(0, lines))
	for line := range img {
		for w := range img[line] {
			img[line][w] = word(line, w)
		}
	}
	return img
}

// first are the lines of image, but of the first ones zeros.
func first(lines, volatile int) []api.Line {
	img := image(lines)
	clear(img[:volatile])
	return img
}

func newBus(t *testing.T) *bus.Bus {
	t.Helper()
	return busOf(t, shape, image(shape.Lines))
}

func busOf(t *testing.T, c api.Config, img []api.Line) *bus.Bus {
	t.Helper()
	b, e := bus.New(c, img)
	if b == nil || e != api.OK {
		t.Fatalf("New(%+v, %d lines): %v, %d; want a bus", c, len(img), b, e)
	}
	return b
}

// is is an event of core 1.
func is(kind, line, w int, v uint64) api.Event {
	return api.Event{Kind: kind, Core: 1, Line: line, Word: w, Val: v}
}

// of is the event as another core's.
func of(core int, e api.Event) api.Event {
	e.Core = core
	return e
}

func issue(line, w int, v uint64) api.Event { return is(api.EvIssue, line, w, v) }
func store(line, w int, v uint64) api.Event { return is(api.EvStore, line, w, v) }
func load(line, w int, v uint64) api.Event  { return is(api.EvLoad, line, w, v) }
func own(line, w int, v uint64) api.Event   { return is(api.EvOwn, line, w, v) }
func rmw(line, w int, v uint64) api.Event   { return is(api.EvRmw, line, w, v) }
func want(line int) api.Event               { return is(api.EvWant, line, 0, 0) }
func send(line int) api.Event               { return is(api.EvSend, line, 0, 0) }
func push(line int) api.Event               { return is(api.EvPush, line, 0, 0) }
func flushed(line int) api.Event            { return is(api.EvFlush, line, 0, 0) }
func fence() api.Event                      { return is(api.EvFence, 0, 0, 0) }
func tell() api.Event                       { return is(api.EvTell, 0, 0, 7) }
func halt() api.Event                       { return is(api.EvHalt, 0, 0, 0) }
func trap() api.Event                       { return is(api.EvTrap, 0, 0, 0) }
func fails() api.Event                      { return is(api.EvFail, 0, 0, 0) }

// do lets events happen that are all allowed.
func do(t *testing.T, b *bus.Bus, l ...api.Event) {
	t.Helper()
	for i, e := range l {
		if !b.Do(e) {
			t.Errorf("event %d, %+v: not allowed", i, e)
		}
	}
}

// view is all that a bus tells.
type view struct {
	lines, kept []api.Line
	pending     [api.MaxCores]int
}

func look(b *bus.Bus) view {
	v := view{lines: b.Lines(), kept: b.Kept()}
	for id := range v.pending {
		v.pending[id] = b.Pending(id)
	}
	return v
}

func (v view) same(w view) bool {
	return slices.Equal(v.lines, w.lines) && slices.Equal(v.kept, w.kept) && v.pending == w.pending
}

// refuses holds that none of these is allowed, and that nothing changes.
func refuses(t *testing.T, b *bus.Bus, l ...api.Event) {
	t.Helper()
	was := look(b)
	for i, e := range l {
		if b.Do(e) {
			t.Errorf("event %d, %+v: allowed", i, e)
		}
		if now := look(b); !now.same(was) {
			t.Errorf("event %d, %+v, that was refused: it changed: %+v; was %+v", i, e, now, was)
		}
	}
}

func checkLines(t *testing.T, b *bus.Bus, what string, lines, kept []api.Line) {
	t.Helper()
	if got := b.Lines(); !slices.Equal(got, lines) {
		t.Errorf("%s: all see %v; want %v", what, got, lines)
	}
	if got := b.Kept(); !slices.Equal(got, kept) {
		t.Errorf("%s: kept are %v; want %v", what, got, kept)
	}
}

func checkPending(t *testing.T, b *bus.Bus, what string, want ...int) {
	t.Helper()
	for id := -1; id < api.MaxCores+1; id++ {
		n := 0
		if id >= 0 && id < len(want) {
			n = want[id]
		}
		if got := b.Pending(id); got != n {
			t.Errorf("%s: core %d has %d; want %d", what, id, got, n)
		}
	}
}

// with is img with v at that word.
func with(img []api.Line, line, w int, v uint64) []api.Line {
	img = slices.Clone(img)
	img[line][w] = v
	return img
}

// shapes are all shapes that differ from shape in one field, good or not.
func shapes() []api.Config {
	var l []api.Config
	for _, n := range append([]int{0, 1, 2, 3, 4, 5, 6, 7, 8, 9, 17, 63}, far...) {
		for field := range 7 {
			c := shape
			*[]*int{&c.Cores, &c.Lines, &c.Volatile, &c.Sets, &c.Ways, &c.Queue, &c.Store}[field] = n
			l = append(l, c)
		}
	}
	return append(l, api.Config{}, api.Config{Cores: 8, Lines: 64, Volatile: 63, Sets: 8, Ways: 8, Queue: 16, Store: 16})
}

// good tells whether c is a shape that there may be, as the first layer's chapter says it.
func good(c api.Config) bool {
	return c.Cores >= 1 && c.Cores <= 8 && c.Lines >= 2 && c.Lines <= 64 && c.Volatile >= 1 && c.Volatile < c.Lines &&
		slices.Contains([]int{1, 2, 4, 8}, c.Sets) && c.Ways >= 1 && c.Ways <= 8 && c.Queue >= 1 && c.Queue <= 16 && c.Store >= 1 && c.Store <= 16
}

// P14.1: a shape that is none is ErrArg, whatever the image; of a good one all lines are the image's, but of those that forget.
func TestNewShapes(t *testing.T) {
	made := 0
	for _, c := range shapes() {
		lines := max(0, min(c.Lines, 100))
		if !good(c) {
			for _, img := range [][]api.Line{nil, {}, image(lines), image(4)} {
				if b, e := bus.New(c, img); b != nil || e != api.ErrArg {
					t.Errorf("New(%+v, %d lines): %v, %d; want ErrArg", c, len(img), b, e)
				}
			}
			continue
		}
		made++
		for _, img := range [][]api.Line{nil, {}} {
			checkLines(t, busOf(t, c, img), "no image", make([]api.Line, lines), make([]api.Line, lines))
		}
		b := busOf(t, c, image(lines))
		checkLines(t, b, "an image", first(lines, c.Volatile), first(lines, c.Volatile))
		checkPending(t, b, "an image")
	}
	if made < 30 {
		t.Errorf("%d good shapes; want more", made)
	}
}

// P14.1: an image has all lines, or none.
func TestNewImages(t *testing.T) {
	for _, lines := range []int{2, 3, 4, 63, 64} {
		c := shape
		c.Lines = lines
		for n := range 130 {
			b, e := bus.New(c, image(n))
			if n == 0 || n == lines {
				if b == nil || e != api.OK {
					t.Errorf("%d of %d lines: %v, %d; want a bus", n, lines, b, e)
				}
			} else if b != nil || e != api.ErrArg {
				t.Errorf("%d of %d lines: %v, %d; want ErrArg", n, lines, b, e)
			}
		}
	}
}

// P14.1: nil tells ErrArg where an error is told, else false, none and 0.
func TestNil(t *testing.T) {
	var b *bus.Bus
	for kind := -1; kind < 17; kind++ {
		if b.Do(api.Event{Kind: kind}) {
			t.Errorf("kind %d: allowed", kind)
		}
	}
	if len(b.Lines()) != 0 || len(b.Kept()) != 0 {
		t.Errorf("nil: %v, %v; want none", b.Lines(), b.Kept())
	}
	for _, id := range append(far, 0, 1, 2) {
		if got := b.Pending(id); got != 0 {
			t.Errorf("nil: core %d has %d; want 0", id, got)
		}
	}
}

// P14.1: the image is neither kept nor changed, what is told is new, and what is written into its spare room is seen nowhere.
func TestShares(t *testing.T) {
	whole := image(9)
	img := whole[:4]
	b := busOf(t, shape, img)
	clear(img)
	want := first(4, 1)
	checkLines(t, b, "the image is cleared", want, want)
	for range 2 {
		for _, l := range [][]api.Line{b.Lines(), b.Kept()} {
			l = append(l, api.Line{9})
			clear(l[:cap(l)])
		}
		checkLines(t, b, "what was told is cleared", want, want)
	}
	lines, kept := b.Lines(), b.Kept()
	do(t, b, issue(2, 3, 5), store(2, 3, 5), push(2), issue(3, 3, 6), store(3, 3, 6))
	if !slices.Equal(lines, want) || !slices.Equal(kept, want) {
		t.Errorf("what was told changed: %v, %v", lines, kept)
	}
	do(t, b, fails())
	if !slices.Equal(whole[4:], image(9)[4:]) || !slices.Equal(img, make([]api.Line, 4)) {
		t.Errorf("the image changed: %v", whole)
	}
}

// P14.1: two buses of one image know nothing of each other.
func TestTwo(t *testing.T) {
	img := image(4)
	a, b := busOf(t, shape, img), busOf(t, shape, img)
	do(t, a, issue(2, 3, 5), store(2, 3, 5), push(2), want(1), halt())
	checkLines(t, b, "the other one", first(4, 1), first(4, 1))
	checkPending(t, b, "the other one")
	do(t, b, fence(), load(2, 3, word(2, 3)))
	if !slices.Equal(img, image(4)) {
		t.Errorf("the image changed: %v", img)
	}
}

// P14.1: of each core its store buffer's entries are counted; of numbers of no core there are none.
func TestPending(t *testing.T) {
	b := newBus(t)
	checkPending(t, b, "new")
	do(t, b, issue(1, 0, 5), want(1), of(2, want(3)), issue(1, 0, 5))
	checkPending(t, b, "entries", 0, 3, 1)
	for _, id := range far {
		if got := b.Pending(id); got != 0 {
			t.Errorf("core %d has %d; want 0", id, got)
		}
	}
	do(t, b, store(1, 0, 5), of(2, send(3)))
	checkPending(t, b, "one gone", 0, 2, 0)
	do(t, b, send(1), store(1, 0, 5))
	checkPending(t, b, "all gone")
}
