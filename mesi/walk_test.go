package mesi_test

import (
	"slices"
	"testing"

	"bellows/api"
	"bellows/dir"
	"bellows/mesi"
)

// dice are numbers that come one behind the other, always the same.
type dice uint64

func (d *dice) roll(sides int) int {
	*d = *d*6364136223846793005 + 1442695040888963407
	return int(*d >> 33 % dice(sides))
}

// tally is how often what a walk should come by was met.
type tally struct {
	heard map[[2]int]int // kinds of messages, and states
	went  map[string]int
}

// walker goes a long way with a system beside a plain one.
type walker struct {
	t    *testing.T
	d    dice
	c    api.Config
	s    *mesi.System
	p    *plain
	last []api.Line // what was stored last
	met  tally

	flushes int // so many of forty steps ask for one
}

func newWalker(t *testing.T, c api.Config, d dice, met tally) *walker {
	return &walker{t: t, d: d, c: c, s: newSystem(t, c), p: newPlain(c, first(c.Lines)), last: kept(first(c.Lines), c.Volatile), met: met}
}

// check holds that both told the same, that they are alike, and P9.5.
func (w *walker) check(what string, right bool) {
	w.t.Helper()
	w.met.went[what]++
	now := look(w.s)
	if want := w.p.view(); !right || !same(now, want) {
		w.t.Errorf("%s: right %v, %+v; want %+v", what, right, now, want)
	}
	readers, writers := make([]int, w.c.Lines), make([]int, w.c.Lines)
	for _, slots := range now.slots {
		for _, x := range slots {
			switch x.State {
			case api.Exc, api.Mod:
				writers[x.Line]++
				fallthrough
			case api.Shd, api.Up:
				readers[x.Line]++
				if x.Data != w.last[x.Line] {
					w.t.Errorf("%s: %+v; last was %v", what, x, w.last[x.Line])
				}
			}
		}
	}
	for line := range w.c.Lines {
		if writers[line] > 0 && readers[line] != 1 {
			w.t.Errorf("%s: line %d has %d who write, %d who read: %+v", what, line, writers[line], readers[line], now.slots)
		}
		if dir.Ready(now.entries[line]) && now.entries[line].Data != w.last[line] {
			w.t.Errorf("%s: line %d is ready with %v; last was %v", what, line, now.entries[line].Data, w.last[line])
		}
	}
}

// use lets a core read, write or reach a word.
func (w *walker) use(core, line, word int, v uint64) {
	switch w.d.roll(5) {
	case 0, 1:
		got, hit := w.s.Load(core, line, word)
		want, wantHit := w.p.load(core, line, word)
		if hit && got != w.last[line][word] {
			w.t.Errorf("Load(%d, %d, %d): %d; last was %d", core, line, word, got, w.last[line][word])
		}
		if hit {
			w.met.went["a Load that hits"]++
		}
		w.check("Load", got == want && hit == wantHit)
	case 2, 3:
		hit := w.s.Store(core, line, word, v)
		if hit {
			w.last[line][word] = v
			w.met.went["a Store that hits"]++
		}
		w.check("Store", hit == w.p.store(core, line, word, v))
	case 4:
		w.check("Reach", w.s.Reach(core, line) == w.p.reach(core, line))
	}
}

// move lets a message of that core move; what is not ErrNone or ErrBusy fits (P9.6).
func (w *walker) move(core int) api.Errno {
	e := api.OK
	switch w.d.roll(3) {
	case 0:
		e = w.s.Up(core)
		w.check("Up", e == w.p.ask(core))
		if e == api.ErrBusy {
			w.met.went["Up of a busy line"]++
			return e
		}
	case 1:
		e = w.s.Answer(core)
		w.check("Answer", e == w.p.answer(core))
	case 2:
		var m api.Msg
		_, _, down := w.s.Queues(core)
		state := api.Inv
		if len(down) > 0 {
			state = stateOf(w.s, core, down[0].Line)
		}
		m, e = w.s.Hear(core)
		want, wantErr := w.p.hear(core)
		w.met.heard[[2]int{m.Kind, state}]++
		w.check("Hear", m == want && e == wantErr)
	}
	if e != api.OK && e != api.ErrNone {
		w.t.Errorf("a message tells %d", e)
	}
	return e
}

// write lets a line go to the memory's queue, or on into the memory.
func (w *walker) write(line int) api.Errno {
	e, what := api.OK, ""
	switch w.d.roll(8) {
	default:
		e, what = w.s.Push(line), "Push"
		w.check(what, e == w.p.push(line))
		if e == api.OK && w.s.Memory()[line] != w.last[line] {
			w.t.Errorf("pushed, the memory has %v of line %d; last was %v", w.s.Memory()[line], line, w.last[line])
		}
	case 1, 2, 3:
		e, what = w.s.Drop(line), "Drop"
		w.check(what, e == w.p.drop(line))
	case 0:
		e, what = w.s.Drain(line), "Drain"
		w.check(what, e == w.p.drain(line))
	}
	switch e {
	case api.OK:
		w.met.went[what+" that goes"]++
	case api.ErrFull:
		w.met.went[what+" of a full queue"]++
	}
	return e
}

// step does one thing to both.
func (w *walker) step(n int) {
	core, line := w.d.roll(w.c.Cores), w.d.roll(w.c.Lines)
	switch kind := w.d.roll(40); {
	case kind < 10:
		w.use(core, line, w.d.roll(8), uint64(n))
	case kind < 12:
		w.check("Evict", w.s.Evict(core, line) == w.p.evict(core, line))
	case kind < 12+w.flushes:
		kind := []int{api.Clean, api.Wipe}[w.d.roll(2)]
		if up, _, _ := w.s.Queues(core); len(up) < 20 {
			w.check("Flush", w.s.Flush(core, line, kind) == w.p.flush(core, line, kind))
		}
	case kind < 20:
		w.write(line)
	case kind == 39 && w.d.roll(60) == 0:
		w.s.Fail()
		w.p.fail()
		w.last = w.p.memory()
		w.check("Fail", true)
	default:
		w.move(core)
	}
}

// settle lets all messages move and all flushes go, till nothing does; then nothing is on its way, and all cores read what was stored last.
func (w *walker) settle() {
	for still := 0; still < 200*(w.c.Cores+w.c.Lines); still++ {
		a, b := w.move(w.d.roll(w.c.Cores)), w.write(w.d.roll(w.c.Lines))
		if a == api.OK || b == api.OK {
			still = 0
		}
	}
	for core := range w.c.Cores {
		checkQueues(w.t, w.s, "settled", core, nil, nil, nil)
		for _, x := range w.s.Slots(core) {
			if x.State > api.Mod {
				w.t.Errorf("settled: core %d has %+v", core, x)
			}
		}
	}
	for line := range w.c.Lines {
		if e := w.s.Entry(line); e.Busy != 0 {
			w.t.Errorf("settled: entry %d: %+v", line, e)
		}
		for core := range w.c.Cores {
			read(w.t, w.s, core, line)
			checkLoad(w.t, w.s, "settled", core, line, line%8, w.last[line][line%8], true)
		}
	}
	checkWaiting(w.t, w.s, "settled")
}

// P9.1 to P9.6: long walks of several shapes beside a plain system: what is told, and all that there is; whoever reads a word reads what was stored last, and nobody else has a line that one may write; every message fits; and in the end nothing hangs.
func TestWalks(t *testing.T) {
	met := tally{heard: map[[2]int]int{}, went: map[string]int{}}
	for i, c := range []api.Config{
		{Cores: 1, Lines: 2, Volatile: 1, Sets: 1, Ways: 1, Queue: 1, Store: 1},
		{Cores: 2, Lines: 2, Volatile: 1, Sets: 1, Ways: 1, Queue: 1, Store: 1},
		{Cores: 2, Lines: 3, Volatile: 1, Sets: 2, Ways: 1, Queue: 2, Store: 1},
		{Cores: 3, Lines: 3, Volatile: 1, Sets: 1, Ways: 2, Queue: 2, Store: 2},
		{Cores: 3, Lines: 6, Volatile: 5, Sets: 4, Ways: 1, Queue: 3, Store: 2},
		{Cores: 4, Lines: 4, Volatile: 2, Sets: 1, Ways: 3, Queue: 1, Store: 3},
		{Cores: 5, Lines: 5, Volatile: 2, Sets: 2, Ways: 2, Queue: 4, Store: 4},
		{Cores: 7, Lines: 4, Volatile: 1, Sets: 8, Ways: 8, Queue: 2, Store: 4},
		{Cores: 8, Lines: 2, Volatile: 1, Sets: 1, Ways: 2, Queue: 1, Store: 8},
		{Cores: 8, Lines: 12, Volatile: 3, Sets: 4, Ways: 2, Queue: 16, Store: 16},
		{Cores: 8, Lines: 64, Volatile: 32, Sets: 8, Ways: 8, Queue: 5, Store: 16},
	} {
		for turn := range 3 {
			w := newWalker(t, c, dice(100*i+turn), met)
			w.flushes = turn
			for n := range 8000 {
				w.step(n + 1)
				if t.Failed() {
					t.Fatalf("shape %d, turn %d, step %d", i, turn, n)
				}
			}
			w.settle()
			if t.Failed() {
				t.Fatalf("shape %d, turn %d, settled", i, turn)
			}
		}
	}
	checkMet(t, met)
}

// checkMet holds that the walks came by all that there is.
func checkMet(t *testing.T, met tally) {
	t.Helper()
	for _, what := range []string{"Load", "Store", "Reach", "Evict", "Flush", "Up", "Answer", "Hear", "Push", "Drop", "Drain", "Fail", "a Load that hits", "a Store that hits", "Up of a busy line", "Push that goes", "Drop that goes", "Drain that goes", "Push of a full queue", "Drop of a full queue"} {
		if met.went[what] < 20 {
			t.Errorf("%s: met %d times; want more", what, met.went[what])
		}
	}
	for kind, states := range map[int][]int{
		api.DataS:  {api.ToS},
		api.DataE:  {api.ToS},
		api.DataM:  {api.ToM, api.Up},
		api.PutAck: {api.Out, api.Dirty, api.Gone},
		api.Invl:   {api.Shd, api.Exc, api.Mod, api.Up, api.Out, api.Dirty},
		api.Down:   {api.Exc, api.Mod, api.Out, api.Dirty},
		api.Done:   {api.Inv, api.Shd, api.ToS, api.ToM, api.Up, api.Out, api.Gone}, // in the others nobody's flush can be over
	} {
		for _, state := range states {
			if met.heard[[2]int{kind, state}] < 5 {
				t.Errorf("kind %d in state %d: heard %d times; want more", kind, state, met.heard[[2]int{kind, state}])
			}
		}
	}
}

// P9.5: what was stored is what is read, by whatever core, behind whatever ways the line went.
func TestLastStore(t *testing.T) {
	ways := []func(t *testing.T, s *mesi.System, core, line int){
		func(t *testing.T, s *mesi.System, core, line int) {},
		func(t *testing.T, s *mesi.System, core, line int) { s.Evict(core, line); moves(t, s) },
		func(t *testing.T, s *mesi.System, core, line int) { s.Evict(core, line) },
		func(t *testing.T, s *mesi.System, core, line int) { read(t, s, (core+1)%3, line) },
		func(t *testing.T, s *mesi.System, core, line int) {
			must(t, "Flush", s.Flush((core+2)%3, line, api.Wipe))
			moves(t, s)
			must(t, "Push", s.Push(line))
			must(t, "Drop", s.Drop(line))
			must(t, "Drain", s.Drain(line))
		},
		func(t *testing.T, s *mesi.System, core, line int) {
			must(t, "Flush", s.Flush(core, line, api.Clean))
			moves(t, s)
			must(t, "Push", s.Push(line))
			must(t, "Drain", s.Drain(line))
		},
	}
	s := newSystem(t, small())
	words := kept(first(6), 2)
	for n := range 400 {
		d := dice(n)
		core, line, word, v := d.roll(3), d.roll(6), d.roll(8), uint64(1000+n)
		write(t, s, core, line, word, v)
		words[line][word] = v
		ways[d.roll(len(ways))](t, s, core, line)
		reader := d.roll(3)
		read(t, s, reader, line)
		got := api.Line{}
		for word := range got {
			got[word], _ = s.Load(reader, line, word)
		}
		if !slices.Equal(got[:], words[line][:]) {
			t.Fatalf("step %d: line %d is %v; want %v", n, line, got, words[line])
		}
	}
}
