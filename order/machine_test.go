package order_test

import (
	"slices"
	"testing"

	"bellows/api"
	"bellows/isa"
	"bellows/machine"
	"bellows/order"
	"bellows/script"
)

// code is a program of that core: it stores, adds, flushes some lines and not others, and tells.
func code(t *testing.T, core int) []uint64 {
	t.Helper()
	var prog []uint64
	for _, i := range []api.Ins{
		{Op: api.Li, A: 1, Imm: 64}, {Op: api.Li, A: 2, Imm: int64(core + 5)},
		{Op: api.St, A: 2, B: 1, Imm: int64(8 * core)}, {Op: api.Clwb, B: 1}, {Op: api.St, A: 2, B: 0, Imm: 8}, {Op: api.Sfen},
		{Op: api.Xadd, A: 3, B: 1, C: 2}, {Op: api.St, A: 3, B: 1, Imm: 64}, {Op: api.Ld, A: 4, B: 1, Imm: 64}, {Op: api.Tell, A: 4},
		{Op: api.Flush, B: 1, Imm: 64}, {Op: api.St, A: 2, B: 1, Imm: 128}, {Op: api.Mfen}, {Op: api.Halt},
	} {
		u, e := isa.Encode(i)
		if e != api.OK {
			t.Fatalf("Encode(%+v): %d", i, e)
		}
		prog = append(prog, u)
	}
	return prog
}

// seenIn are the lines as all cores of a quiet machine see them.
func seenIn(m *machine.Machine) []api.Line {
	l := m.System().Memory()
	for line := range l {
		if e := m.System().Entry(line); e.Here {
			l[line] = e.Data
		}
	}
	for id := range m.System().Config().Cores {
		for _, s := range m.System().Slots(id) {
			if s.State == api.Mod {
				l[s.Line] = s.Data
			}
		}
	}
	return l
}

// P18.1 beside P15.4 and P15.5: the events of a machine are allowed, wherever power fails; Keeps tells the memory behind the failure, Ends what all see in the end.
func TestMachines(t *testing.T) {
	round := script.Round(shape)
	d := dice(3)
	rose := 0
	for n := range 600 {
		m, e := machine.New(shape, image(), [][]uint64{code(t, 0), code(t, 1)}, code(t, 3))
		if e != api.OK {
			t.Fatalf("New: %d", e)
		}
		var l []api.Event
		for range n {
			l = append(l, m.Do(round[d.roll(len(round))])...)
		}
		kept, e := order.Keeps(shape, image(), l)
		l = append(l, m.Do(api.Act{Kind: api.ActFail})...)
		if memory := m.System().Memory(); !slices.Equal(kept, memory) || e != api.OK {
			t.Fatalf("failed behind %d acts: kept %v, %d; memory %v", n, kept, e, memory)
		}
		checkLines(t, "failed", shape, image(), l, kept, kept)
		for turn := 0; !m.Quiet(); turn++ {
			if turn == 1000 {
				t.Fatalf("failed behind %d acts: never quiet", n)
			}
			l = append(l, m.Play(round)...)
		}
		checkAt(t, "quiet", l, len(l), api.OK)
		if ends, e := order.Ends(shape, image(), l); !slices.Equal(ends, seenIn(m)) || e != api.OK {
			t.Fatalf("failed behind %d acts: ends %v, %d; all see %v", n, ends, e, seenIn(m))
		}
		if kept[1] != image()[1] || kept[2] != image()[2] {
			rose++
		}
	}
	if rose < 50 {
		t.Errorf("%d times stores were kept; want more", rose)
	}
}
