package machine_test

import (
	"math"
	"slices"
	"testing"

	"bellows/api"
	"bellows/array"
	"bellows/dir"
	"bellows/isa"
	"bellows/machine"
	"bellows/mesi"
	"bellows/sbuf"
)

// shape is that of the machines of these tests: of four lines one forgets; an L1 has room for two.
var shape = api.Config{Cores: 3, Lines: 4, Volatile: 1, Sets: 1, Ways: 2, Queue: 2, Store: 4}

// far are numbers of no kind, no core and no line; some come to good ones where bits are lost.
var far = []int{math.MinInt, math.MinInt + 1, -1 << 32, -1<<32 + 3, -256, -255, -64, -11, -8, -2, -1, 11, 12, 64, 65, 128, 256, 257, 266, 1 << 31, 1 << 32, 1<<32 + 1, 1<<32 + 10, math.MaxInt - 1, math.MaxInt}

// word is what a word of the image has.
func word(line, w int) uint64 { return uint64(1000*line + w + 500) }

// image is so many lines, of which each word has its own number.
func image(lines int) []api.Line {
	img := make([]api.Line, max(0, lines))
	for line := range img {
		for w := range img[line] {
			img[line][w] = word(line, w)
		}
	}
	return img
}

// first are the lines of image, but of the first ones zeros.
func first(lines, volatile int) []api.Line {
	img := image(lines)
	clear(img[:volatile])
	return img
}

func code(t *testing.T, l ...api.Ins) []uint64 {
	t.Helper()
	var prog []uint64
	for _, i := range l {
		u, e := isa.Encode(i)
		if e != api.OK {
			t.Fatalf("Encode(%+v): %d", i, e)
		}
		prog = append(prog, u)
	}
	return prog
}

func li(a int, imm int64) api.Ins { return api.Ins{Op: api.Li, A: a, Imm: imm} }

// on is an instruction with an address, or a jump.
func on(op, a, b int, imm int64) api.Ins { return api.Ins{Op: op, A: a, B: b, Imm: imm} }

// three is an instruction of three registers.
func three(op, a, b, c int) api.Ins { return api.Ins{Op: op, A: a, B: b, C: c} }

// plainOp is an instruction without parts.
func plainOp(op int) api.Ins { return api.Ins{Op: op} }

func tell(a int) api.Ins { return api.Ins{Op: api.Tell, A: a} }

var halt = api.Ins{Op: api.Halt}

// of is a machine of that shape, and of image; programs that are not given are empty.
func of(t *testing.T, c api.Config, rec []uint64, progs ...[]uint64) *machine.Machine {
	t.Helper()
	progs = append(progs, make([][]uint64, c.Cores-len(progs))...)
	m, e := machine.New(c, image(c.Lines), progs, rec)
	if m == nil || e != api.OK {
		t.Fatalf("New(%+v): %v, %d; want a machine", c, m, e)
	}
	return m
}

// newMachine is a machine of three cores, of which core 1 has these instructions.
func newMachine(t *testing.T, l ...api.Ins) *machine.Machine {
	t.Helper()
	return of(t, shape, nil, nil, code(t, l...))
}

// by is an act of core 1.
func by(kind int) api.Act { return api.Act{Kind: kind, Core: 1} }

// at is an act of that line.
func at(kind, line int) api.Act { return api.Act{Kind: kind, Line: line} }

// is is an event of core 1.
func is(kind, line, w int, v uint64) api.Event {
	return api.Event{Kind: kind, Core: 1, Line: line, Word: w, Val: v}
}

// push is the event that the line went to the memory's queue.
func push(line int) api.Event { return api.Event{Kind: api.EvPush, Line: line} }

var failed = api.Event{Kind: api.EvFail}

func checkEvents(t *testing.T, what string, got []api.Event, want ...api.Event) {
	t.Helper()
	if !slices.Equal(got, want) {
		t.Errorf("%s: %+v; want %+v", what, got, want)
	}
}

// do lets acts happen, and holds what is told of them all.
func do(t *testing.T, m *machine.Machine, what string, acts []api.Act, want ...api.Event) {
	t.Helper()
	var got []api.Event
	for _, a := range acts {
		got = append(got, m.Do(a)...)
	}
	checkEvents(t, what, got, want...)
}

// acts are such acts of core 1, one behind the other.
func acts(kinds ...int) []api.Act {
	var l []api.Act
	for _, kind := range kinds {
		l = append(l, by(kind))
	}
	return l
}

// coreView is all that a core tells, and what stands about it.
type coreView struct {
	regs              [api.Regs]uint64
	place, waits      int
	buffer            []sbuf.Entry
	runs              bool
	up, answers, down []api.Msg
	slots             []array.Slot
}

// view is all that a machine tells.
type view struct {
	cores   []coreView
	entries []dir.Entry
	waiting []int
	memory  []api.Line
	fails   int
	quiet   bool
}

// lookAt tells what there is of a system.
func lookAt(s *mesi.System) view {
	v := view{waiting: s.Waiting(), memory: s.Memory()}
	for id := range s.Config().Cores {
		x := coreView{slots: s.Slots(id)}
		x.up, x.answers, x.down = s.Queues(id)
		v.cores = append(v.cores, x)
	}
	for line := range s.Config().Lines {
		v.entries = append(v.entries, s.Entry(line))
	}
	return v
}

func look(m *machine.Machine) view {
	v := lookAt(m.System())
	for id := range v.cores {
		c, x := m.Core(id), &v.cores[id]
		x.regs, x.place, x.waits, x.buffer, x.runs = c.Regs(), c.Place(), c.Waits(), c.Buffer(), c.Runs()
	}
	v.fails, v.quiet = m.Fails(), m.Quiet()
	return v
}

// same tells whether two views are alike; nil and empty lists are one.
func (v view) same(w view) bool {
	return slices.EqualFunc(v.cores, w.cores, sameCore) && slices.Equal(v.entries, w.entries) && slices.Equal(v.waiting, w.waiting) && slices.Equal(v.memory, w.memory) && v.fails == w.fails && v.quiet == w.quiet
}

func sameCore(x, y coreView) bool {
	return x.regs == y.regs && x.place == y.place && x.waits == y.waits && slices.Equal(x.buffer, y.buffer) && x.runs == y.runs &&
		slices.Equal(x.up, y.up) && slices.Equal(x.answers, y.answers) && slices.Equal(x.down, y.down) && slices.Equal(x.slots, y.slots)
}

// checkSame holds that m tells what it told before.
func checkSame(t *testing.T, m *machine.Machine, what string, was view) {
	t.Helper()
	if now := look(m); !now.same(was) {
		t.Errorf("%s: it changed: %+v; was %+v", what, now, was)
	}
}

// good tells whether c is a shape that there may be, as the first layer's chapter says it.
func good(c api.Config) bool {
	return c.Cores >= 1 && c.Cores <= 8 && c.Lines >= 2 && c.Lines <= 64 && c.Volatile >= 1 && c.Volatile < c.Lines &&
		slices.Contains([]int{1, 2, 4, 8}, c.Sets) && c.Ways >= 1 && c.Ways <= 8 && c.Queue >= 1 && c.Queue <= 16 && c.Store >= 1 && c.Store <= 16
}

// P15.1: every field's edges: a shape that is none is ErrArg; else all is as it is at first.
func TestNewEveryShape(t *testing.T) {
	for _, n := range append([]int{0, 1, 2, 3, 4, 5, 6, 7, 8, 9, 16, 17, 63}, far...) {
		for field := range 7 {
			c := shape
			*[]*int{&c.Cores, &c.Lines, &c.Volatile, &c.Sets, &c.Ways, &c.Queue, &c.Store}[field] = n
			lines, cores := max(0, min(c.Lines, 100)), max(0, min(c.Cores, 100))
			m, e := machine.New(c, image(lines), make([][]uint64, cores), nil)
			if !good(c) {
				checkNone(t, "no shape", m, e, api.ErrArg)
				continue
			}
			if m == nil || e != api.OK {
				t.Fatalf("New(%+v): %v, %d; want a machine", c, m, e)
			}
			checkNew(t, m, c)
		}
	}
	m, e := machine.New(api.Config{}, nil, nil, nil)
	checkNone(t, "nothing", m, e, api.ErrArg)
}

// checkNew holds that m is of that shape and image, and that all is as it is at first.
func checkNew(t *testing.T, m *machine.Machine, c api.Config) {
	t.Helper()
	want := view{entries: slices.Repeat([]dir.Entry{{Owner: -1}}, c.Lines), memory: first(c.Lines, c.Volatile)}
	want.cores = slices.Repeat([]coreView{{runs: true}}, c.Cores)
	checkSame(t, m, "new", want)
	if got := m.System().Config(); got != c {
		t.Errorf("Config %+v; want %+v", got, c)
	}
}

func checkNone(t *testing.T, what string, m *machine.Machine, e, want api.Errno) {
	t.Helper()
	if m != nil || e != want {
		t.Errorf("%s: %v, %d; want nil, %d", what, m, e, want)
	}
}

// P15.1: an image has as many lines as the shape, or none; without one all words are 0.
func TestNewImage(t *testing.T) {
	for n := range 70 {
		m, e := machine.New(shape, image(n), make([][]uint64, 3), nil)
		if n != 0 && n != shape.Lines {
			checkNone(t, "no image", m, e, api.ErrArg)
		} else if m == nil || e != api.OK {
			t.Errorf("%d lines: %v, %d; want a machine", n, m, e)
		} else if want := first(n, min(n, 1)); n > 0 && !slices.Equal(m.System().Memory(), want) {
			t.Errorf("memory %v; want %v", m.System().Memory(), want)
		} else if n == 0 && !slices.Equal(m.System().Memory(), make([]api.Line, 4)) {
			t.Errorf("memory %v; want zeros", m.System().Memory())
		}
	}
}

// P15.1: there are as many programs as cores.
func TestNewPrograms(t *testing.T) {
	for cores := 1; cores <= api.MaxCores; cores++ {
		c := shape
		c.Cores = cores
		for n := range 20 {
			m, e := machine.New(c, nil, make([][]uint64, n), nil)
			if n != cores {
				checkNone(t, "not as many programs as cores", m, e, api.ErrArg)
			} else if m == nil || e != api.OK {
				t.Errorf("%d cores: %v, %d; want a machine", cores, m, e)
			}
		}
		m, e := machine.New(c, nil, nil, nil)
		checkNone(t, "no programs", m, e, api.ErrArg)
	}
}

// P15.1: of each core, and of the recovery, a program may have MaxProg words and no more.
func TestNewLongPrograms(t *testing.T) {
	for id := range shape.Cores {
		for n, want := range map[int]api.Errno{api.MaxProg: api.OK, api.MaxProg + 1: api.ErrMany, 2 * api.MaxProg: api.ErrMany} {
			progs := make([][]uint64, 3)
			progs[id] = make([]uint64, n)
			if m, e := machine.New(shape, nil, progs, nil); e != want || (m != nil) != (e == api.OK) {
				t.Errorf("core %d, %d words: %v, %d; want %d", id, n, m, e, want)
			}
			if m, e := machine.New(shape, nil, make([][]uint64, 3), make([]uint64, n)); e != want || (m != nil) != (e == api.OK) {
				t.Errorf("recovery of %d words: %v, %d; want %d", n, m, e, want)
			}
		}
	}
}

// P15.1: the shape and the image are asked first, then how many programs there are, then the programs and the recovery.
func TestNewOrder(t *testing.T) {
	long := make([]uint64, api.MaxProg+1)
	bad := shape
	bad.Store = 17
	for i, x := range []struct {
		c     api.Config
		img   []api.Line
		progs [][]uint64
		rec   []uint64
		want  api.Errno
	}{
		{bad, nil, [][]uint64{long, long, long}, long, api.ErrArg},
		{shape, image(3), [][]uint64{long, long, long}, long, api.ErrArg},
		{shape, nil, [][]uint64{long, long}, long, api.ErrArg},
		{shape, nil, [][]uint64{long, long, long, long}, long, api.ErrArg},
		{shape, nil, nil, long, api.ErrArg},
		{shape, nil, [][]uint64{nil, nil, long}, long, api.ErrMany},
		{shape, nil, [][]uint64{nil, nil, nil}, long, api.ErrMany},
		{shape, nil, [][]uint64{nil, nil, nil}, nil, api.OK},
	} {
		if m, e := machine.New(x.c, x.img, x.progs, x.rec); e != x.want || (m != nil) != (e == api.OK) {
			t.Errorf("%d: %v, %d; want %d", i, m, e, x.want)
		}
	}
}

// P15.1: words of programs that are no instructions are taken; the core that comes to one traps, and so does the recovery.
func TestNewTakesAnyWords(t *testing.T) {
	m := of(t, shape, []uint64{math.MaxUint64}, nil, []uint64{23})
	do(t, m, "no instruction", acts(api.ActExec), is(api.EvTrap, 0, 0, 0))
	do(t, m, "no instruction", []api.Act{{Kind: api.ActFail}, {Kind: api.ActExec}}, failed, api.Event{Kind: api.EvTrap})
}

// P15.1: what is handed in is not changed, its spare room included, and not kept.
func TestNewKeepsNothing(t *testing.T) {
	prog, rec := code(t, li(1, 5), tell(1), halt), code(t, li(1, 6), tell(1), halt)
	img := append(image(4), api.Line{9})
	progs := [][]uint64{prog[:2], prog[:2], prog[:2], {77}}
	m, e := machine.New(shape, img[:4], progs[:3], rec[:2])
	if e != api.OK {
		t.Fatalf("New: %d", e)
	}
	if !slices.Equal(img, append(image(4), api.Line{9})) || !slices.Equal(prog, code(t, li(1, 5), tell(1), halt)) || !slices.Equal(rec, code(t, li(1, 6), tell(1), halt)) || !slices.Equal(progs[3], []uint64{77}) || len(progs[0]) != 2 {
		t.Error("what was handed in was changed")
	}
	clear(img)
	clear(prog)
	clear(rec)
	clear(progs)
	if got := m.System().Memory(); !slices.Equal(got, first(4, 1)) {
		t.Errorf("memory %v; want the image", got)
	}
	do(t, m, "the program", acts(api.ActExec, api.ActExec), is(api.EvTell, 0, 0, 5))
	for range 3 {
		do(t, m, "the recovery", []api.Act{{Kind: api.ActFail}, {Kind: api.ActExec}, {Kind: api.ActExec}}, failed, api.Event{Kind: api.EvTell, Val: 6})
	}
	if prog[0]+rec[0] != 0 || progs[0] != nil || img[1] != (api.Line{}) {
		t.Error("what was handed in was written")
	}
}

// P15.1: two machines of the same arguments share nothing.
func TestNewSharesNothing(t *testing.T) {
	progs, rec, img := make([][]uint64, 3), code(t, tell(0)), image(4)
	progs[1] = code(t, li(1, 64), on(api.St, 1, 1, 0))
	m, _ := machine.New(shape, img, progs, rec)
	n, _ := machine.New(shape, img, progs, rec)
	was := look(n)
	m.Play(acts(api.ActExec, api.ActExec, api.ActDrain, api.ActUp, api.ActDn, api.ActDrain))
	checkSame(t, n, "the other one", was)
	m.Do(api.Act{Kind: api.ActFail})
	checkSame(t, n, "the other one", was)
	if m.System() == n.System() || m.Core(1) == n.Core(1) {
		t.Error("two machines share a system, or a core")
	}
}

// P15.1: each core has its number, its program, and as much room in its store buffer as the shape says.
func TestCores(t *testing.T) {
	for room := 1; room <= api.MaxStore; room++ {
		c := shape
		c.Cores, c.Store = api.MaxCores, room
		var progs [][]uint64
		for id := range c.Cores {
			l := []api.Ins{li(1, int64(100+id)), tell(1)}
			for range room + 3 {
				l = append(l, on(api.St, 1, 0, 64))
			}
			progs = append(progs, code(t, l...))
		}
		m := of(t, c, code(t, slices.Repeat([]api.Ins{on(api.St, 1, 0, 64)}, room+3)...), progs...)
		for id := range c.Cores {
			exec := api.Act{Kind: api.ActExec, Core: id}
			do(t, m, "core", []api.Act{exec, exec}, api.Event{Kind: api.EvTell, Core: id, Val: uint64(100 + id)})
			m.Play(slices.Repeat([]api.Act{exec}, room+5))
			if got := len(m.Core(id).Buffer()); got != room {
				t.Errorf("core %d: %d entries; want %d", id, got, room)
			}
		}
		m.Do(api.Act{Kind: api.ActFail})
		m.Play(slices.Repeat([]api.Act{{Kind: api.ActExec}}, room+5))
		if got := len(m.Core(0).Buffer()); got != room {
			t.Errorf("recovery: %d entries; want %d", got, room)
		}
	}
}

// P15.1: System and Core are themselves: what is done to them is done to the machine; of no core: nil.
func TestThemselves(t *testing.T) {
	m := newMachine(t, li(1, 7), tell(1))
	for id := range shape.Cores {
		if m.Core(id) == nil || m.Core(id) != m.Core(id) {
			t.Errorf("core %d is not itself", id)
		}
	}
	for _, id := range append([]int{3, 4, 5, 6, 7, 8, 9}, far...) {
		if m.Core(id) != nil {
			t.Errorf("core %d is there", id)
		}
	}
	c, s := m.Core(1), m.System()
	if s == nil || s != m.System() {
		t.Error("the system is not itself")
	}
	c.Exec(s)
	do(t, m, "its next instruction", acts(api.ActExec), is(api.EvTell, 0, 0, 7))
	c.Stop()
	do(t, m, "stopped", acts(api.ActExec))
	if s.Load(2, 3, 1); !s.Reach(2, 3) {
		m.Play([]api.Act{{Kind: api.ActUp, Core: 2}, {Kind: api.ActDn, Core: 2}})
	}
	if v, hit := s.Load(2, 3, 1); v != word(3, 1) || !hit {
		t.Errorf("Load: %d, %v", v, hit)
	}
}

// P15.1: what is told of nil.
func TestNil(t *testing.T) {
	var m *machine.Machine
	var all []api.Act
	for _, n := range append([]int{0, 1, 2, 3, 4, 5, 6, 7, 8, 9, 10}, far...) {
		a := api.Act{Kind: n, Core: n, Line: n}
		all = append(all, a, by(n), at(n, 1))
		if len(m.Do(a))+len(m.Do(by(n)))+len(m.Do(at(n, 1))) != 0 || m.Core(n) != nil {
			t.Errorf("nil: %d", n)
		}
	}
	if len(m.Play(all))+len(m.Play(nil)) != 0 || m.System() != nil || m.Quiet() || m.Fails() != 0 {
		t.Error("nil")
	}
}

// P15.1: power failed as often as there was an ActFail.
func TestFails(t *testing.T) {
	m := newMachine(t, halt)
	for n := range 50 {
		if got := m.Fails(); got != n {
			t.Errorf("Fails: %d; want %d", got, n)
		}
		do(t, m, "a failure", []api.Act{by(n % 10), {Kind: api.ActFail}, {Kind: 11}}, failed)
	}
}

// Rule 2: what is told is new memory, its spare room too.
func TestToldIsNew(t *testing.T) {
	m := newMachine(t, slices.Repeat([]api.Ins{tell(0)}, 9)...)
	told := is(api.EvTell, 0, 0, 0)
	all := [][]api.Event{m.Do(by(api.ActExec)), m.Do(by(api.ActExec)), m.Play(acts(api.ActExec, api.ActExec)), m.Play(acts(api.ActExec, api.ActExec))}
	all = append(all, m.Do(api.Act{Kind: api.ActFail}), m.Do(api.Act{Kind: api.ActFail}))
	want := [][]api.Event{{told}, {told}, {told, told}, {told, told}, {failed}, {failed}}
	for n, l := range all {
		checkEvents(t, "told", l, want[n]...)
		l = l[:cap(l)]
		for i := range l {
			l[i] = is(api.EvHalt, 1, 1, 1)
		}
	}
	checkEvents(t, "told again", m.Do(api.Act{Kind: api.ActFail}), failed)
}
