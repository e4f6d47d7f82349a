package machine_test

import (
	"slices"
	"testing"

	"bellows/api"
	"bellows/bus"
	"bellows/machine"
)

// tally is how often what the walks should come by was met.
type tally struct {
	events      map[int]int
	quiet, loud int
}

// walker goes a long way with a machine beside a plain one and a bus.
type walker struct {
	t   *testing.T
	d   dice
	c   api.Config
	m   *machine.Machine
	p   *plain
	b   *bus.Bus
	met *tally

	fails bool // power may fail; behind that one core alone runs
}

func newWalker(t *testing.T, c api.Config, d dice, met *tally) *walker {
	t.Helper()
	w := &walker{t: t, d: d, c: c, met: met}
	w.fails = w.d.roll(3) > 0
	var progs [][]uint64
	for range c.Cores {
		progs = append(progs, w.d.program(t, c.Lines))
	}
	rec := w.d.program(t, c.Lines)
	img := image(c.Lines)
	if w.d.roll(4) == 0 {
		img = nil
	}
	m, e := machine.New(c, img, progs, rec)
	if e != api.OK {
		t.Fatalf("New: %d", e)
	}
	w.m, w.p = m, newPlain(t, c, img, progs, rec)
	w.b, _ = bus.New(c, img)
	return w
}

// follow holds that the events are the plain machine's, and P15.4 and P15.5.
func (w *walker) follow(a api.Act, got, want []api.Event) {
	w.t.Helper()
	if !slices.Equal(got, want) {
		w.t.Errorf("%+v: %+v; want %+v", a, got, want)
	}
	for _, e := range got {
		w.met.events[e.Kind]++
		if !w.b.Do(e) {
			w.t.Errorf("%+v: %+v of %+v is not allowed", a, e, got)
		}
	}
	if a.Kind != api.ActFail {
		return
	}
	if kept := w.b.Kept(); !slices.Equal(w.m.System().Memory(), kept) || !slices.Equal(w.b.Lines(), kept) {
		w.t.Errorf("failed: memory %v; kept %v", w.m.System().Memory(), kept)
	}
}

// step does one act, on both.
func (w *walker) step() {
	a := w.d.act(w.c, w.fails)
	if w.d.roll(50) == 0 {
		a = w.d.wild()
	}
	w.follow(a, w.m.Do(a), w.p.do(a))
}

// check holds that there is in the machine what there is in the plain one.
func (w *walker) check() {
	w.t.Helper()
	want := w.p.look()
	checkSame(w.t, w.m, "beside a plain one", want)
	if want.quiet {
		w.met.quiet++
	} else {
		w.met.loud++
	}
}

// stop halts all cores, so that a machine that is let be comes to be quiet.
func (w *walker) stop() {
	for id := range w.c.Cores {
		w.m.Core(id).Stop()
		w.p.cores[id].Stop()
	}
}

// settle lets all that is on its way come to its end: then it is quiet.
func (w *walker) settle() {
	w.stop()
	for turn := 0; !w.m.Quiet(); turn++ {
		if turn == 2000 {
			w.t.Errorf("never quiet: %+v", look(w.m))
			return
		}
		for id := range w.c.Cores {
			for kind := api.ActDrain; kind <= api.ActDn; kind++ {
				a := api.Act{Kind: kind, Core: id}
				w.follow(a, w.m.Do(a), w.p.do(a))
			}
		}
		for line := range w.c.Lines {
			for _, kind := range []int{api.ActPush, api.ActMem} {
				a := api.Act{Kind: kind, Line: line}
				w.follow(a, w.m.Do(a), w.p.do(a))
			}
		}
		w.check()
	}
}

// shapes are those of the walks, the least one and great ones too.
var shapes = []api.Config{
	{Cores: 1, Lines: 2, Volatile: 1, Sets: 1, Ways: 1, Queue: 1, Store: 1},
	{Cores: 2, Lines: 2, Volatile: 1, Sets: 1, Ways: 1, Queue: 1, Store: 2},
	{Cores: 2, Lines: 3, Volatile: 1, Sets: 1, Ways: 2, Queue: 2, Store: 16},
	{Cores: 3, Lines: 3, Volatile: 2, Sets: 2, Ways: 2, Queue: 1, Store: 4},
	{Cores: 4, Lines: 2, Volatile: 1, Sets: 1, Ways: 8, Queue: 3, Store: 8},
	{Cores: 8, Lines: 6, Volatile: 2, Sets: 4, Ways: 1, Queue: 16, Store: 3},
	{Cores: 8, Lines: 64, Volatile: 31, Sets: 8, Ways: 8, Queue: 5, Store: 16},
}

// P15.1 to P15.5: long walks of several shapes and programs, with failures and acts that are none, beside a plain machine and a bus; and in the end all is quiet.
func TestWalks(t *testing.T) {
	met := &tally{events: map[int]int{}}
	for n, c := range shapes {
		for turn := range 30 {
			w := newWalker(t, c, dice(100*n+turn), met)
			for step := range 6000 {
				w.step()
				if step%50 == 0 {
					w.check()
				}
				if t.Failed() {
					t.Fatalf("shape %d, turn %d, step %d", n, turn, step)
				}
			}
			w.settle()
			if t.Failed() {
				t.Fatalf("shape %d, turn %d, settled", n, turn)
			}
		}
	}
	for kind := api.EvLoad; kind <= api.EvWant; kind++ {
		if met.events[kind] < 40 {
			t.Errorf("event %d: met %d times; want more", kind, met.events[kind])
		}
	}
	if met.quiet < 50 || met.loud < 50 {
		t.Errorf("quiet %d times, not %d times; want more of both", met.quiet, met.loud)
	}
}

// P15.4, P15.5: rounds of acts in which power fails at every place.
func TestFailEverywhere(t *testing.T) {
	prog := code(t, li(1, 64), li(2, 7), on(api.St, 2, 1, 0), on(api.Clwb, 0, 1, 0), three(api.Xadd, 3, 1, 2), on(api.St, 3, 1, 64), on(api.Flush, 0, 1, 64), plainOp(api.Sfen), on(api.Ld, 4, 1, 0), tell(4), halt)
	rec := code(t, on(api.Ld, 1, 0, 64), tell(1), on(api.Ld, 2, 0, 128), tell(2), on(api.St, 1, 0, 192), on(api.Opt, 0, 0, 192), plainOp(api.Mfen), halt)
	c := shape
	c.Cores = 2
	var round []api.Act
	for id := range c.Cores {
		for kind := api.ActExec; kind <= api.ActDn; kind++ {
			round = append(round, api.Act{Kind: kind, Core: id})
		}
	}
	for line := range c.Lines {
		round = append(round, at(api.ActPush, line), at(api.ActMem, line))
	}
	for n := range 40 * len(round) {
		w := &walker{t: t, c: c, met: &tally{events: map[int]int{}}}
		w.m, w.p = of(t, c, rec, prog, prog), newPlain(t, c, image(4), [][]uint64{prog, prog}, rec)
		w.b, _ = bus.New(c, image(4))
		for i := 0; i < n || !w.m.Quiet(); i++ {
			a := round[i%len(round)]
			if i == n || i == n+n%97 {
				a = api.Act{Kind: api.ActFail}
			}
			w.follow(a, w.m.Do(a), w.p.do(a))
			if i > 200*len(round) {
				t.Fatalf("never quiet: %+v", look(w.m))
			}
		}
		w.check()
		if t.Failed() {
			t.Fatalf("failed at act %d", n)
		}
	}
}
