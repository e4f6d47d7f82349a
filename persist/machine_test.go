package persist_test

import (
	"slices"
	"testing"

	"bellows/api"
	"bellows/isa"
	"bellows/machine"
	"bellows/persist"
	"bellows/script"
	"bellows/trace"
)

// shape is that of these machines: of four lines one forgets; the L1s are small, so that lines are put out.
var shape = api.Config{Cores: 2, Lines: 4, Volatile: 1, Sets: 1, Ways: 2, Queue: 2, Store: 2}

func image() []api.Line { return []api.Line{{1, 2}, {10, 11}, {20, 21}, {30, 31}} }

// code is a program of that core: it stores, adds, flushes some lines and not others.
func code(t *testing.T, core int) []uint64 {
	t.Helper()
	var prog []uint64
	for _, i := range []api.Ins{
		{Op: api.Li, A: 1, Imm: 64}, {Op: api.Li, A: 2, Imm: int64(core + 5)},
		{Op: api.St, A: 2, B: 1, Imm: int64(8 * core)}, {Op: api.Clwb, B: 1}, {Op: api.St, A: 1, B: 1, Imm: int64(8 * core)}, {Op: api.Sfen},
		{Op: api.Xadd, A: 3, B: 1, C: 2}, {Op: api.St, A: 3, B: 1, Imm: 64}, {Op: api.St, A: 3, B: 1, Imm: 72}, {Op: api.Flush, B: 1, Imm: 64},
		{Op: api.St, A: 2, B: 1, Imm: 128}, {Op: api.St, A: 3, B: 1, Imm: 136}, {Op: api.St, A: 2, B: 1, Imm: 64}, {Op: api.Mfen},
		{Op: api.St, A: 2, B: 1, Imm: 24}, {Op: api.Halt},
	} {
		u, e := isa.Encode(i)
		if e != api.OK {
			t.Fatalf("Encode(%+v): %d", i, e)
		}
		prog = append(prog, u)
	}
	return prog
}

// wander lets up to n acts happen, in any order, of lines that are put out too.
func wander(m *machine.Machine, d *dice, n int) (l []api.Event) {
	round := script.Round(shape)
	for core := range shape.Cores {
		round = append(round, api.Act{Kind: api.ActEvict, Core: core, Line: 1 + d.roll(3)})
	}
	round = append(round, api.Act{Kind: api.ActDrop, Line: 1 + d.roll(3)})
	for range n {
		l = append(l, m.Do(round[d.roll(len(round))])...)
	}
	return l
}

// P19.1, P19.2: what a machine leaves of each line that does not forget may be left, word by word too, wherever and however often power fails; what was there ahead of the sure moment alone may not.
func TestMachines(t *testing.T) {
	d := dice(11)
	elder, later, tooOld := 0, 0, 0
	for n := range 500 {
		m, e := machine.New(shape, image(), [][]uint64{code(t, 0), code(t, 1)}, code(t, 3))
		if e != api.OK {
			t.Fatalf("New: %d", e)
		}
		was := image()
		var l []api.Event
		for range 3 {
			l = append(l, wander(m, &d, n)...)
			l = append(l, m.Do(api.Act{Kind: api.ActFail})...)
			parts := trace.Cut(l)
			part, left := parts[len(parts)-2], m.System().Memory()
			for line := shape.Volatile; line < shape.Lines; line++ {
				if !persist.May(was[line], left[line], part, line) {
					t.Fatalf("%d acts, line %d of %+v: %v behind %v", n, line, part, left[line], was[line])
				}
				for w, v := range left[line] {
					if !persist.Word(was[line][w], v, part, line, w) {
						t.Fatalf("%d acts, word %d of line %d of %+v: %d behind %d", n, w, line, part, v, was[line][w])
					}
				}
				h, sure := persist.History(was[line], part, line), persist.Sure(part, line)
				if h[sure] != left[line] {
					t.Fatalf("%d acts, line %d of %+v: %v; sure was %v", n, line, part, left[line], h[sure])
				}
				if sure < len(h)-1 {
					later++
				}
				for _, old := range h[:sure] {
					if elder++; !slices.Contains(h[sure:], old) {
						tooOld++
						if persist.May(was[line], old, part, line) {
							t.Fatalf("%d acts, line %d of %+v: %v may be left", n, line, part, old)
						}
					}
				}
			}
			was = left
		}
	}
	if elder < 1000 || later < 500 || tooOld < 500 {
		t.Errorf("%d moments were elder than the sure one, %d of them not there again, %d lines had later ones; want more", elder, tooOld, later)
	}
}
