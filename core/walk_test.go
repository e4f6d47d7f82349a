package core_test

import (
	"slices"
	"testing"

	"bellows/api"
	"bellows/core"
	"bellows/isa"
	"bellows/mesi"
	"bellows/sbuf"
)

// dice are numbers that come one behind the other, always the same.
type dice uint64

func (d *dice) roll(sides int) int {
	*d = *d*6364136223846793005 + 1442695040888963407
	return int(*d >> 33 % dice(sides))
}

// spot is a word of a line.
type spot struct{ line, word int }

// instruction gives some instruction of a program of n words, such that most addresses are there: registers 4 to 7 hold them.
func (d *dice) instruction(n, lines int) api.Ins {
	addr := int64(64*d.roll(lines) + 8*d.roll(2))
	switch kind := d.roll(40); {
	case kind < 7:
		return on(api.Ld, d.roll(4), 7, addr)
	case kind < 15:
		return on(api.St, d.roll(4), 7, addr)
	case kind < 18:
		return li(4+d.roll(3), addr)
	case kind < 20:
		return three(api.Cas, d.roll(4), 4+d.roll(3), d.roll(4))
	case kind < 22:
		return three(api.Xadd, d.roll(4), 4+d.roll(3), d.roll(4))
	case kind < 25:
		return on([]int{api.Clwb, api.Opt, api.Flush}[d.roll(3)], 0, 7, addr)
	case kind < 27:
		return plainOp([]int{api.Sfen, api.Mfen, api.Nop}[d.roll(3)])
	case kind < 30:
		return li(d.roll(4), int64(d.roll(9)-3))
	case kind < 33:
		return three(api.Add+d.roll(6), d.roll(4), d.roll(8), d.roll(8))
	case kind < 36:
		return on(api.Beq+d.roll(3), d.roll(4), d.roll(4), int64(d.roll(n)))
	case kind < 37:
		return on(api.Jmp, 0, 0, int64(d.roll(n)))
	}
	return tell(d.roll(8))
}

// program gives some program that may end: by a word that is none, an address that there is not, a halt, or where it is over.
func (d *dice) program(t *testing.T, lines int) []uint64 {
	n := 20 + d.roll(60)
	var l []api.Ins
	for range n {
		l = append(l, d.instruction(n, lines))
	}
	l = append(l, on(api.Jmp, 0, 0, 0)) // else it goes on from its beginning
	prog := code(t, l...)
	switch d.roll(4) {
	case 0:
		prog[d.roll(n)] |= 1 << 20
	case 1:
		prog[d.roll(n)] = code(t, on(api.Ld, 0, 7, 4))[0]
	case 2:
		prog[d.roll(n)] = api.Halt
	default:
		prog = prog[:n]
	}
	return prog
}

// walker goes a long way with cores beside plain ones, each of them on a system of its own.
type walker struct {
	t      *testing.T
	d      dice
	c      api.Config
	s, p   *mesi.System
	cores  []*core.Core
	plains []*plain
	now    map[spot]uint64 // what all see
	issued [][]sbuf.Entry  // of each core: what it issued and has not been seen yet
	met    map[int]int     // events, by their kinds
	slow   int             // of so many steps one drains a buffer
}

func newWalker(t *testing.T, c api.Config, d dice, met map[int]int) *walker {
	t.Helper()
	s, e := mesi.New(c, nil)
	p, _ := mesi.New(c, nil)
	if e != api.OK {
		t.Fatalf("mesi.New: %d", e)
	}
	w := &walker{t: t, d: d, c: c, s: s, p: p, now: map[spot]uint64{}, issued: make([][]sbuf.Entry, c.Cores), met: met}
	w.slow = 4 + w.d.roll(8)
	for id := range c.Cores {
		w.cores, w.plains = append(w.cores, nil), append(w.plains, nil)
		w.start(id)
	}
	return w
}

// start gives the core a new program; what it had in its buffer is lost.
func (w *walker) start(id int) {
	prog := w.d.program(w.t, w.c.Lines)
	w.cores[id] = ofWords(w.t, id, w.c.Store, prog)
	w.plains[id] = &plain{id: id, room: w.c.Store, words: prog, v: view{runs: true}}
	w.issued[id] = nil
}

// restart gives the core a new program, if nothing of the old one is on its way.
func (w *walker) restart(id int) {
	if c := w.cores[id]; !c.Runs() && len(c.Buffer()) == 0 && c.Waits() == 0 {
		w.start(id)
	}
}

// check holds that the core did what the plain one did, that all is alike, and P13.5.
func (w *walker) check(id int, got, want []api.Event) {
	w.t.Helper()
	if !slices.Equal(got, want) {
		w.t.Errorf("core %d: %+v; want %+v", id, got, want)
	}
	if now, want := look(w.cores[id]), w.plains[id].v; !now.same(want) {
		w.t.Errorf("core %d: %+v; want %+v", id, now, want)
	}
	if now, want := asked(w.s, id), asked(w.p, id); !slices.Equal(now, want) {
		w.t.Errorf("core %d: asked %+v; want %+v", id, now, want)
	}
	if now, want := w.s.Slots(id), w.p.Slots(id); !slices.Equal(now, want) {
		w.t.Errorf("core %d: slots %+v; want %+v", id, now, want)
	}
	for _, e := range got {
		w.met[e.Kind]++
		w.follow(id, e)
	}
}

// follow holds P13.5 of an event: a core reads its own stores first, else what all see; stores come to be seen in their order.
func (w *walker) follow(id int, e api.Event) {
	at := spot{e.Line, e.Word}
	own, has := uint64(0), false
	for _, x := range w.issued[id] {
		if x.Line == e.Line && x.Word == e.Word {
			own, has = x.Val, true
		}
	}
	right := true
	switch e.Kind {
	case api.EvIssue:
		w.issued[id] = append(w.issued[id], sbuf.Entry{Line: e.Line, Word: e.Word, Val: e.Val})
	case api.EvOwn:
		right = has && own == e.Val
	case api.EvLoad:
		right = !has && w.now[at] == e.Val
	case api.EvRmw:
		right = len(w.issued[id]) == 0 && w.now[at] == e.Val
	case api.EvFence:
		right = len(w.issued[id]) == 0
	case api.EvStore:
		if len(w.issued[id]) > 0 { // else it is that of an EvRmw
			right = w.issued[id][0] == sbuf.Entry{Line: e.Line, Word: e.Word, Val: e.Val}
			w.issued[id] = w.issued[id][1:]
		}
		w.now[at] = e.Val
	}
	if !right {
		w.t.Errorf("core %d: %+v: issued %+v, all see %d", id, e, w.issued[id], w.now[at])
	}
}

// move lets a message of that core move, in both systems.
func (w *walker) move(id int) {
	switch w.d.roll(3) {
	case 0:
		w.s.Up(id)
		w.p.Up(id)
	case 1:
		w.s.Answer(id)
		w.p.Answer(id)
	default:
		m, e := w.s.Hear(id)
		n, _ := w.p.Hear(id)
		if m != n {
			w.t.Errorf("core %d hears %+v; want %+v", id, m, n)
		}
		if e == api.OK {
			w.check(id, w.cores[id].Hear(m), w.plains[id].hear(n))
		}
	}
}

// write lets a line go to the memory's queue, or on, or out, in both systems.
func (w *walker) write(line int) {
	for _, s := range []*mesi.System{w.s, w.p} {
		s.Push(line)
		s.Drain(line)
	}
	if w.d.roll(8) == 0 {
		id := w.d.roll(w.c.Cores)
		w.s.Evict(id, line)
		w.p.Evict(id, line)
	}
}

func (w *walker) step() {
	id := w.d.roll(w.c.Cores)
	switch kind := w.d.roll(20); {
	case kind < 7:
		w.check(id, w.cores[id].Exec(w.s), w.plains[id].exec(w.p))
	case kind < 10:
		if w.d.roll(w.slow) < 4 {
			w.check(id, w.cores[id].Drain(w.s), w.plains[id].drain(w.p))
		}
	case kind < 18:
		w.move(id)
	case kind < 19:
		w.write(w.d.roll(w.c.Lines))
	default:
		w.restart(id)
		if w.d.roll(400) == 0 {
			w.cores[id].Stop()
			w.plains[id].v.runs = false
		}
	}
}

// P13.2 to P13.5: long walks of several shapes, with many programs, beside plain cores: all that is told, and what the system was asked.
func TestWalks(t *testing.T) {
	met := map[int]int{}
	for n, c := range []api.Config{
		{Cores: 1, Lines: 2, Volatile: 1, Sets: 1, Ways: 1, Queue: 1, Store: 1},
		{Cores: 2, Lines: 2, Volatile: 1, Sets: 1, Ways: 1, Queue: 1, Store: 2},
		{Cores: 2, Lines: 3, Volatile: 1, Sets: 1, Ways: 2, Queue: 2, Store: 16},
		{Cores: 3, Lines: 3, Volatile: 2, Sets: 2, Ways: 2, Queue: 2, Store: 4},
		{Cores: 4, Lines: 2, Volatile: 1, Sets: 1, Ways: 8, Queue: 3, Store: 8},
		{Cores: 8, Lines: 6, Volatile: 2, Sets: 4, Ways: 2, Queue: 16, Store: 3},
	} {
		for turn := range 4 {
			w := newWalker(t, c, dice(100*n+turn), met)
			for step := range 60000 {
				w.step()
				if t.Failed() {
					t.Fatalf("shape %d, turn %d, step %d", n, turn, step)
				}
			}
		}
	}
	for kind := api.EvLoad; kind <= api.EvWant; kind++ {
		if kind != api.EvPush && kind != api.EvFail && met[kind] < 50 {
			t.Errorf("event %d: met %d times; want more", kind, met[kind])
		}
	}
}

// P13.2: words of all kinds, good ones and others, do what they do of the plain core.
func TestEveryWord(t *testing.T) {
	d := dice(1)
	refused := 0
	for n := range 100000 {
		u := uint64(d.roll(26)) | uint64(d.roll(9)*d.roll(2))<<8 | uint64(d.roll(9)*d.roll(2))<<12 | uint64(d.roll(9)*d.roll(2))<<16
		u |= uint64([]int{0, 0, 0, 0, 8, 64, 72, 1 << 31, 1<<32 - 8}[d.roll(9)]) << 32
		if d.roll(20) == 0 {
			u |= 1 << d.roll(64)
		}
		prog := append(code(t, setAll(64, -8, 128, 8, 3, 1, 72)...), u)
		s, q := newSystem(t), newSystem(t)
		c, p := ofWords(t, 1, 1, prog), &plain{id: 1, room: 1, words: prog, v: view{runs: true}}
		if n%3 == 0 { // whatever is asked hits
			for line := range shape.Lines {
				owns(t, s, c, line, true)
				owns(t, q, c, line, true)
			}
		}
		for range 9 {
			if got, want := c.Exec(s), p.exec(q); !slices.Equal(got, want) || !look(c).same(p.v) || !slices.Equal(asked(s, 1), asked(q, 1)) {
				t.Fatalf("%x: %+v, %+v; want %+v, %+v", u, got, look(c), want, p.v)
			}
		}
		if _, e := isa.Decode(u); e != api.OK {
			refused++
		}
	}
	if refused < 1000 || refused > 99000 {
		t.Errorf("%d words were none; want some of each", refused)
	}
}
