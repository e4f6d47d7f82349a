package persist_test

import (
	"slices"
	"testing"

	"bellows/api"
	"bellows/isa"
	"bellows/machine"
	"bellows/persist"
	"bellows/script"
)

// shape is that of these machines: of four lines one forgets; the L1s are small, so that lines are put out.
var shape = api.Config{Cores: 2, Lines: 4, Volatile: 1, Sets: 1, Ways: 2, Queue: 2, Store: 2}

func image() []api.Line { return []api.Line{{1, 2}, {10, 11}, {20, 21}, {30, 31}} }

// code is a program of that core: it stores, adds, flushes some lines and not others.
func code(t *testing.T, core int) []uint64 {
	t.Helper()
	var prog []uint64
	for _, i := range []api.Ins{
		{Op: api.Li, A: 1, Imm: 64}, {Op: api.Li, A: 2, Imm: int64(core + 5)},
		{Op: api.St, A: 2, B: 1, Imm: int64(8 * core)}, {Op: api.Clwb, B: 1}, {Op: api.St, A: 1, B: 1, Imm: int64(8 * core)}, {Op: api.Sfen},
		{Op: api.Xadd, A: 3, B: 1, C: 2}, {Op: api.St, A: 3, B: 1, Imm: 64}, {Op: api.St, A: 3, B: 1, Imm: 72}, {Op: api.Flush, B: 1, Imm: 64},
		{Op: api.St, A: 2, B: 1, Imm: 128}, {Op: api.St, A: 3, B: 1, Imm: 136}, {Op: api.St, A: 2, B: 1, Imm: 64}, {Op: api.Mfen},
		{Op: api.St, A: 2, B: 1, Imm: 24}, {Op: api.Halt},
	} {
		u, e := isa.Encode(i)
		if e != api.OK {
			t.Fatalf("Encode(%+v): %d", i, e)
		}
		prog = append(prog, u)
	}
	return prog
}

// wander lets up to n acts happen, in any order, of lines that are put out too.
func wander(m *machine.Machine, d *dice, n int) (l []api.Event) {
	round := script.Round(shape)
	for core := range shape.Cores {
		round = append(round, api.Act{Kind: api.ActEvict, Core: core, Line: 1 + d.roll(3)})
	}
	round = append(round, api.Act{Kind: api.ActDrop, Line: 1 + d.roll(3)})
	for range n {
		l = append(l, m.Do(round[d.roll(len(round))])...)
	}
	return l
}

// met counts what the machines came by, so that the tests are seen to have met it.
type met struct {
	later  int // lines that were stored to behind their last push
	tooOld int // moments ahead of the sure one, whose words are not there again
}

// checkLeft holds that the words left are those of the sure moment, as a machine writes nothing but pushes, and that they may be left, word by word too.
func checkLeft(t *testing.T, was, left api.Line, l []api.Event, line int, m *met) {
	t.Helper()
	h, sure := persist.History(was, l, line), persist.Sure(l, line)
	if h[sure] != left || !persist.May(was, left, l, line) {
		t.Fatalf("line %d of %+v: %v behind %v; sure was %v", line, l, left, was, h[sure])
	}
	for w, v := range left {
		if !persist.Word(was[w], v, l, line, w) {
			t.Fatalf("word %d of line %d of %+v: %d behind %d", w, line, l, v, was[w])
		}
	}
	if sure < len(h)-1 {
		m.later++
	}
	for _, old := range h[:sure] {
		if slices.Contains(h[sure:], old) {
			continue
		}
		m.tooOld++
		if persist.May(was, old, l, line) {
			t.Fatalf("line %d of %+v: %v may be left, which is too old", line, l, old)
		}
	}
}

// P19.1, P19.2: what a machine leaves of each line that does not forget, wherever and however often power fails.
func TestMachines(t *testing.T) {
	d := dice(11)
	var all met
	for n := range 500 {
		m, e := machine.New(shape, image(), [][]uint64{code(t, 0), code(t, 1)}, code(t, 3))
		if e != api.OK {
			t.Fatalf("New: %d", e)
		}
		was := image()
		for range 3 {
			l := wander(m, &d, n)
			m.Do(api.Act{Kind: api.ActFail})
			left := m.System().Memory()
			for line := shape.Volatile; line < shape.Lines; line++ {
				checkLeft(t, was[line], left[line], l, line, &all)
			}
			was = left
		}
	}
	if all.later < 500 || all.tooOld < 500 {
		t.Errorf("%d lines had moments behind the sure one, %d moments were too old; want more", all.later, all.tooOld)
	}
}
