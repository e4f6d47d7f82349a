package machine_test

import (
	"testing"

	"bellows/api"
)

// dice are numbers that come one behind the other, always the same.
type dice uint64

func (d *dice) roll(sides int) int {
	*d = *d*6364136223846793005 + 1442695040888963407
	return int(*d >> 33 % dice(sides))
}

// act gives some act; a failure, rarely, if there may be one.
func (d *dice) act(c api.Config, fails bool) api.Act {
	id, line := d.roll(c.Cores), d.roll(c.Lines)
	switch kind := d.roll(40); {
	case kind < 9:
		return api.Act{Kind: api.ActExec, Core: id}
	case kind < 16:
		return api.Act{Kind: api.ActDrain, Core: id}
	case kind < 22:
		return api.Act{Kind: api.ActUp, Core: id}
	case kind < 27:
		return api.Act{Kind: api.ActAns, Core: id}
	case kind < 33:
		return api.Act{Kind: api.ActDn, Core: id}
	case kind < 36:
		return api.Act{Kind: api.ActPush, Line: line}
	case kind < 37:
		return api.Act{Kind: api.ActEvict, Core: id, Line: line}
	case kind < 38:
		return api.Act{Kind: api.ActDrop, Line: line}
	case kind < 39 || !fails || d.roll(20) > 0:
		return api.Act{Kind: api.ActMem, Line: line}
	}
	return api.Act{Kind: api.ActFail}
}

// wild gives an act of any numbers, most of them none.
func (d *dice) wild() api.Act {
	a := api.Act{Kind: d.roll(12), Core: d.roll(10) - 1, Line: d.roll(12) - 1}
	if a.Kind == api.ActFail {
		a.Kind = api.ActMem
	}
	*[]*int{&a.Kind, &a.Core, &a.Line}[d.roll(3)] = far[d.roll(len(far))]
	return a
}

// instruction gives some instruction of a program of n words, such that most addresses are there: registers 4 to 6 hold them, register 7 is 0.
func (d *dice) instruction(n, lines int) api.Ins {
	addr := int64(64*d.roll(lines) + 8*d.roll(3))
	switch kind := d.roll(40); {
	case kind < 7:
		return on(api.Ld, d.roll(4), 7, addr)
	case kind < 16:
		return on(api.St, d.roll(4), 7, addr)
	case kind < 18:
		return li(4+d.roll(3), addr)
	case kind < 20:
		return three(api.Cas, d.roll(4), 4+d.roll(3), d.roll(4))
	case kind < 23:
		return three(api.Xadd, d.roll(4), 4+d.roll(3), d.roll(4))
	case kind < 27:
		return on([]int{api.Clwb, api.Opt, api.Flush}[d.roll(3)], 0, 7, addr)
	case kind < 29:
		return plainOp([]int{api.Sfen, api.Mfen, api.Nop}[d.roll(3)])
	case kind < 33:
		return li(d.roll(4), int64(d.roll(9)-3))
	case kind < 35:
		return three(api.Add+d.roll(6), d.roll(4), d.roll(8), d.roll(8))
	case kind < 37:
		return on(api.Beq+d.roll(3), d.roll(4), d.roll(4), int64(d.roll(n)))
	case kind < 38:
		return on(api.Jmp, 0, 0, int64(d.roll(n)))
	}
	return tell(d.roll(8))
}

// program gives some program: it halts, or goes on from its beginning, or comes to an address or a word that there is not, or to its end.
func (d *dice) program(t *testing.T, lines int) []uint64 {
	n := 10 + d.roll(50)
	var l []api.Ins
	for range n {
		l = append(l, d.instruction(n, lines))
	}
	prog := code(t, append(l, on(api.Jmp, 0, 0, 0))...)
	switch d.roll(8) {
	case 0:
		prog[d.roll(n)] |= 1 << 20
	case 1:
		prog[d.roll(n)] = code(t, on(api.Ld, 0, 7, int64(64*lines)))[0]
	case 2, 3, 4:
		prog[d.roll(n)] = api.Halt
	case 5:
		prog = prog[:n]
	}
	return prog
}
