package core_test

import (
	"math"
	"slices"
	"testing"

	"bellows/api"
	"bellows/sbuf"
)

// imms are numbers that an instruction may have.
var imms = []int64{0, 1, -1, 2, 7, 8, 63, 64, 65, -64, 1 << 16, math.MaxInt32 - 1, math.MaxInt32, math.MinInt32, math.MinInt32 + 1}

// reckoned are the operations that reckon, as the chapter's words say them.
var reckoned = map[int]func(b, c uint64) uint64{
	api.Add: func(b, c uint64) uint64 { return b + c },
	api.Sub: func(b, c uint64) uint64 { return b - c },
	api.And: func(b, c uint64) uint64 { return b & c },
	api.Xor: func(b, c uint64) uint64 { return b ^ c },
	api.Shl: func(b, c uint64) uint64 { return b << (c & 63) },
	api.Shr: func(b, c uint64) uint64 { return b >> (c & 63) },
}

// The chapter's example.
func TestExample(t *testing.T) {
	c, s := newCore(t, li(1, 5), on(api.St, 1, 0, 0), on(api.Ld, 2, 0, 0)), newSystem(t)
	exec(t, c, s, 1)
	checkEvents(t, "st", c.Exec(s), is(api.EvIssue, 0, 0, 5))
	checkEvents(t, "ld", c.Exec(s), is(api.EvOwn, 0, 0, 5))
	checkReg(t, c, "behind it", 2, 5)
	checkPlace(t, c, "behind it", 3)
}

// P13.2: all events are of the core's own number, whatever it is.
func TestEveryCore(t *testing.T) {
	prog := code(t, li(1, 5), tell(1), on(api.St, 1, 0, 64), on(api.Ld, 1, 0, 64), on(api.Clwb, 0, 0, 64), plainOp(api.Halt))
	for id := range 8 {
		c, s := ofWords(t, id, 4, prog), newSystem(t)
		var got []api.Event
		for range 7 {
			got = append(got, c.Exec(s)...)
		}
		checkEvents(t, "every core", got,
			api.Event{Kind: api.EvTell, Core: id, Val: 5},
			api.Event{Kind: api.EvIssue, Core: id, Line: 1, Val: 5},
			api.Event{Kind: api.EvOwn, Core: id, Line: 1, Val: 5},
			api.Event{Kind: api.EvWant, Core: id, Line: 1},
			api.Event{Kind: api.EvHalt, Core: id})
	}
}

// P13.2: nothing, unless a system is there; then it goes on.
func TestExecWithoutSystem(t *testing.T) {
	for _, i := range []api.Ins{plainOp(api.Nop), li(1, 5), tell(1), plainOp(api.Halt), plainOp(api.Sfen), on(api.Jmp, 0, 0, 3), on(api.St, 0, 0, 64), on(api.Ld, 1, 0, 1)} {
		c := newCore(t, i)
		for range 3 {
			checkEvents(t, "without a system", c.Exec(nil))
			checkFresh(t, c, "without a system")
		}
	}
	c := newCore(t, li(1, 5), tell(1))
	exec(t, c, newSystem(t), 1)
	checkEvents(t, "without a system", c.Exec(nil))
	checkEvents(t, "with one", c.Exec(newSystem(t)), is(api.EvTell, 0, 0, 5))
}

// P13.2: Nop changes nothing; Li gives each register each Imm, its sign drawn out, and no other register anything.
func TestNopAndLi(t *testing.T) {
	for _, imm := range imms {
		for reg := range api.Regs {
			c, s := newCore(t, li((reg+1)%api.Regs, 77), li(reg, imm), plainOp(api.Nop)), newSystem(t)
			exec(t, c, s, 3)
			want := view{place: 3, runs: true}
			want.regs[(reg+1)%api.Regs] = 77
			want.regs[reg] = uint64(imm)
			checkSame(t, c, "li", want)
		}
	}
}

// P13.2: what reckons does so on all pairs of numbers, into whichever register, those of the pair too.
func TestReckon(t *testing.T) {
	for op, f := range reckoned {
		for _, b := range imms {
			for _, c := range imms {
				for _, a := range []int{0, 1, 2, 7} {
					x, s := newCore(t, li(1, b), li(2, c), three(op, a, 1, 2), three(op, a, 1, 1)), newSystem(t)
					exec(t, x, s, 3)
					want := view{place: 3, runs: true}
					want.regs[1], want.regs[2] = uint64(b), uint64(c)
					want.regs[a] = f(uint64(b), uint64(c))
					checkSame(t, x, "reckoned", want)
					exec(t, x, s, 1)
					checkReg(t, x, "of one register", a, f(want.regs[1], want.regs[1]))
				}
			}
		}
	}
}

// P13.2: jumps go to their place, or else to the next one, and change nothing else.
func TestJumps(t *testing.T) {
	goes := map[int]func(a, b uint64) bool{
		api.Jmp: func(a, b uint64) bool { return true },
		api.Beq: func(a, b uint64) bool { return a == b },
		api.Bne: func(a, b uint64) bool { return a != b },
		api.Blt: func(a, b uint64) bool { return a < b },
	}
	for op, f := range goes {
		for _, a := range imms {
			for _, b := range imms {
				for _, to := range []int64{0, 1, 2, 3, 4, 4095, 4096, math.MaxInt32} {
					i := on(op, 6, 7, to)
					if op == api.Jmp {
						i = on(op, 0, 0, to)
					}
					c, s := newCore(t, li(6, a), li(7, b), i), newSystem(t)
					exec(t, c, s, 3)
					want := view{regs: [8]uint64{6: uint64(a), 7: uint64(b)}, place: 3, runs: true}
					if f(uint64(a), uint64(b)) {
						want.place = int(to)
					}
					checkSame(t, c, "a jump", want)
				}
			}
		}
	}
}

// P13.2: a loop comes by its words again and again, and each time they do what they say with what the registers have then.
func TestLoop(t *testing.T) {
	c, s := newCore(t, li(1, 0), li(2, 1), li(3, 1000), three(api.Add, 1, 1, 2), tell(1), on(api.Blt, 1, 3, 3), plainOp(api.Halt)), newSystem(t)
	exec(t, c, s, 3)
	for n := range uint64(1000) {
		exec(t, c, s, 1)
		checkEvents(t, "the loop", c.Exec(s), is(api.EvTell, 0, 0, n+1))
		exec(t, c, s, 1)
	}
	checkEvents(t, "behind the loop", c.Exec(s), is(api.EvHalt, 0, 0, 0))
}

// P13.2: Tell tells each register, and leaves it.
func TestTell(t *testing.T) {
	for reg := range api.Regs {
		for _, v := range imms {
			c, s := newCore(t, li(reg, v), tell(reg), tell((reg+1)%api.Regs)), newSystem(t)
			exec(t, c, s, 1)
			checkEvents(t, "tell", c.Exec(s), is(api.EvTell, 0, 0, uint64(v)))
			checkEvents(t, "tell of another one", c.Exec(s), is(api.EvTell, 0, 0, 0))
			checkReg(t, c, "told", reg, uint64(v))
			checkPlace(t, c, "told", 3)
		}
	}
}

// P13.2: behind Halt nothing is executed any more, and the place stays.
func TestHalt(t *testing.T) {
	for n := range 3 {
		c, s := newCore(t, append(slices.Repeat([]api.Ins{plainOp(api.Nop)}, n), plainOp(api.Halt), li(1, 5))...), newSystem(t)
		exec(t, c, s, n)
		checkRuns(t, c, "ahead of halt", true)
		checkEvents(t, "halt", c.Exec(s), is(api.EvHalt, 0, 0, 0))
		for range 3 {
			checkSame(t, c, "halted", view{place: n})
			checkEvents(t, "halted", c.Exec(s))
		}
	}
}

// P13.2: Halt waits for nothing; what is in the buffer stays there.
func TestHaltDoesNotWait(t *testing.T) {
	c, s := newCore(t, on(api.St, 0, 0, 64), plainOp(api.Halt)), newSystem(t)
	checkEvents(t, "st", c.Exec(s), is(api.EvIssue, 1, 0, 0))
	checkEvents(t, "halt", c.Exec(s), is(api.EvHalt, 0, 0, 0))
	checkBuffer(t, c, "halted", sbuf.Entry{Kind: api.St, Line: 1})
}

// checkTraps holds that c traps now, where it is, and then does nothing any more.
func checkTraps(t *testing.T, what string, x pair) {
	t.Helper()
	was := look(x.c)
	was.runs = false
	up := asked(x.s, 1)
	checkEvents(t, what, x.c.Exec(x.s), is(api.EvTrap, 0, 0, 0))
	for range 3 {
		checkSame(t, x.c, what, was)
		checkEvents(t, what, x.c.Exec(x.s))
		checkAsked(t, x.s, what, up...)
	}
}

// P13.2: where there is no word the core traps: without a program, behind its end, and wherever a jump goes.
func TestTrapWithoutWord(t *testing.T) {
	c, s := newCore(t), newSystem(t)
	checkTraps(t, "no program", pair{c, s})
	for n := 1; n < 4; n++ {
		c, s = newCore(t, slices.Repeat([]api.Ins{li(n, 5)}, n)...), newSystem(t)
		exec(t, c, s, n)
		checkTraps(t, "behind the end", pair{c, s})
		checkPlace(t, c, "behind the end", n)
	}
	for _, to := range []int64{1, 2, 100, 4095, 4096, 4097, math.MaxInt32 - 1, math.MaxInt32} {
		c, s = newCore(t, on(api.Jmp, 0, 0, to)), newSystem(t)
		exec(t, c, s, 1)
		checkTraps(t, "a far place", pair{c, s})
		checkPlace(t, c, "a far place", int(to))
	}
	c, s = ofWords(t, 1, 4, slices.Concat(code(t, on(api.Jmp, 0, 0, 4095)), make([]uint64, 4095))), newSystem(t)
	exec(t, c, s, 2)
	checkPlace(t, c, "behind the last place of all", 4096)
	checkTraps(t, "behind the last place of all", pair{c, s})
}

// P13.2: words that are no instructions trap, ahead of all that their parts would do.
func TestTrapOfNoInstruction(t *testing.T) {
	good := code(t, on(api.Ld, 1, 2, 64))[0]
	for _, u := range []uint64{
		23, 24, 64, 255, 256, math.MaxUint64, 1 << 63, 1 << 20, 1 << 31, 1 << 32,
		good | 8<<8, good | 8<<12, good | 1<<16, good | 1<<20, good | 1<<31, good + 15,
		1 | 1<<12, 17 | 1<<63, 18 | 1<<63, 21 | 1<<32, 22 | 1<<8,
	} {
		c, s := ofWords(t, 1, 4, []uint64{0, u, 0}), newSystem(t)
		exec(t, c, s, 1)
		checkTraps(t, "no instruction", pair{c, s})
		checkPlace(t, c, "no instruction", 1)
	}
}

// P13.2: words that are no instructions do no harm where the core does not come to them.
func TestNoInstructionLetGo(t *testing.T) {
	c, s := ofWords(t, 1, 4, slices.Concat(code(t, on(api.Jmp, 0, 0, 2)), []uint64{math.MaxUint64}, code(t, li(1, 5)))), newSystem(t)
	exec(t, c, s, 2)
	checkReg(t, c, "behind it", 1, 5)
}
