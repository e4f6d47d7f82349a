package isa_test

import (
	"math"
	"slices"
	"strings"
	"testing"

	"bellows/api"
	"bellows/isa"
)

// row is an operation with its number and what it has, as the chapter and api list them.
type row struct {
	op, number int
	has        string
}

var rows = []row{
	{api.Nop, 0, ""}, {api.Li, 1, "AI"},
	{api.Add, 2, "ABC"}, {api.Sub, 3, "ABC"}, {api.And, 4, "ABC"}, {api.Xor, 5, "ABC"}, {api.Shl, 6, "ABC"}, {api.Shr, 7, "ABC"},
	{api.Ld, 8, "ABI"}, {api.St, 9, "ABI"}, {api.Cas, 10, "ABC"}, {api.Xadd, 11, "ABC"},
	{api.Clwb, 12, "BI"}, {api.Opt, 13, "BI"}, {api.Flush, 14, "BI"}, {api.Sfen, 15, ""}, {api.Mfen, 16, ""},
	{api.Jmp, 17, "I"}, {api.Beq, 18, "ABI"}, {api.Bne, 19, "ABI"}, {api.Blt, 20, "ABI"},
	{api.Tell, 21, "A"}, {api.Halt, 22, ""},
}

// noOps are numbers of no operation; some come to one where bits are lost.
var noOps = []int{
	math.MinInt, math.MinInt + 1, -1 << 32, -1<<32 + 2, -1 << 31, -256, -255, -23, -22, -2, -1,
	23, 24, 31, 32, 33, 64, 127, 128, 255, 256, 257, 278, 1 << 16, 1 << 31, 1 << 32, 1<<32 + 1, math.MaxInt - 1, math.MaxInt,
}

// regs are numbers about the bounds of registers and of their four bits, and far beyond them.
var regs = []int{math.MinInt, -1 << 32, -16, -8, -1, 0, 1, 2, 6, 7, 8, 9, 15, 16, 17, 256, 1 << 32, 1<<32 + 1, math.MaxInt}

// imms are numbers about the bounds of Imm, and far beyond them.
var imms = []int64{
	math.MinInt64, math.MinInt64 + 1, -1 << 32, -1<<32 + 1, math.MinInt32 - 1, math.MinInt32, math.MinInt32 + 1, -65536, -8, -2, -1,
	0, 1, 2, 8, 65536, math.MaxInt32 - 1, math.MaxInt32, math.MaxInt32 + 1, 1<<32 - 1, 1 << 32, 1<<32 + 1, math.MaxInt64,
}

func (r row) jumps() bool { return r.number >= 17 && r.number <= 20 }

// takes tells by the chapter's words whether what it has may be so.
func (r row) takes(a, b, c int, imm int64) bool {
	for letter, reg := range map[string]int{"A": a, "B": b, "C": c} {
		most := 0
		if strings.Contains(r.has, letter) {
			most = 7
		}
		if reg < 0 || reg > most {
			return false
		}
	}
	if !strings.Contains(r.has, "I") {
		return imm == 0
	}
	least := int64(-2147483648)
	if r.jumps() {
		least = 0
	}
	return imm >= least && imm <= 2147483647
}

// word is reckoned without shifts, part by part.
func (r row) word(a, b, c int, imm int64) uint64 {
	if imm < 0 {
		imm += 4294967296
	}
	return uint64(r.number) + 256*uint64(a) + 4096*uint64(b) + 65536*uint64(c) + 4294967296*uint64(imm)
}

// all hands each instruction of that row's operation, good and not, to f.
func (r row) all(f func(i api.Ins)) {
	for _, a := range regs {
		for _, b := range regs {
			for _, c := range regs {
				for _, imm := range imms {
					f(api.Ins{Op: r.op, A: a, B: b, C: c, Imm: imm})
				}
			}
		}
	}
}

func checkIs(t *testing.T, i api.Ins, u uint64) {
	t.Helper()
	if !isa.Good(i) {
		t.Errorf("Good(%v): false", i)
	}
	if got, err := isa.Encode(i); got != u || err != api.OK {
		t.Errorf("Encode(%v): %x, %d; want %x", i, got, err, u)
	}
	if got, err := isa.Decode(u); got != i || err != api.OK {
		t.Errorf("Decode(%x): %v, %d; want %v", u, got, err, i)
	}
}

func checkNone(t *testing.T, i api.Ins) {
	t.Helper()
	if isa.Good(i) {
		t.Errorf("Good(%v): true", i)
	}
	if got, err := isa.Encode(i); got != 0 || err != api.ErrForm {
		t.Errorf("Encode(%v): %x, %d; want 0, ErrForm", i, got, err)
	}
}

func checkNoWord(t *testing.T, u uint64) {
	t.Helper()
	if got, err := isa.Decode(u); got != (api.Ins{}) || err != api.ErrForm {
		t.Errorf("Decode(%x): %v, %d; want nothing, ErrForm", u, got, err)
	}
}

// P10.1: of each operation the letters of what it has; there are 23 of them.
func TestHas(t *testing.T) {
	for n, r := range rows {
		if r.op != n || r.number != n {
			t.Fatalf("row %d is of operation %d", n, r.op)
		}
		if got := isa.Has(r.op); got != r.has {
			t.Errorf("Has(%d): %q; want %q", r.op, got, r.has)
		}
	}
	if len(rows) != 23 {
		t.Errorf("%d operations; want 23", len(rows))
	}
}

// P10.1: what is no operation has nothing, and is neither good nor a word.
func TestNoOperation(t *testing.T) {
	for _, op := range noOps {
		if got := isa.Has(op); got != "" {
			t.Errorf("Has(%d): %q; want nothing", op, got)
		}
		for _, i := range []api.Ins{{Op: op}, {Op: op, A: 1}, {Op: op, A: 1, Imm: 1}, {Op: op, A: 1, B: 2, C: 3}, {Op: op, Imm: -1}} {
			checkNone(t, i)
		}
	}
	for op := uint64(23); op < 256; op++ {
		for _, rest := range []uint64{0, 0x100, 0x1100, 0x11100, 0x100000000, 0xffffffff00000100, 0xffffffffffffff00} {
			checkNoWord(t, rest+op)
		}
	}
}

// P10.1: the chapter's example, and words put together by hand.
func TestExamples(t *testing.T) {
	for _, x := range []struct {
		i api.Ins
		u uint64
	}{
		{api.Ins{Op: api.Li, A: 1, Imm: -1}, 0xffffffff00000101},
		{api.Ins{}, 0},
		{api.Ins{Op: api.Li}, 0x1},
		{api.Ins{Op: api.Li, A: 7, Imm: math.MinInt32}, 0x8000000000000701},
		{api.Ins{Op: api.Li, A: 3, Imm: math.MaxInt32}, 0x7fffffff00000301},
		{api.Ins{Op: api.Add, A: 1, B: 2, C: 3}, 0x32102},
		{api.Ins{Op: api.Shr, A: 7, B: 7, C: 7}, 0x77707},
		{api.Ins{Op: api.Ld, A: 4, B: 5, Imm: 72}, 0x4800005408},
		{api.Ins{Op: api.St, A: 5, B: 4, Imm: -8}, 0xfffffff800004509},
		{api.Ins{Op: api.Cas, A: 1, B: 6, C: 2}, 0x2610a},
		{api.Ins{Op: api.Xadd, C: 7}, 0x7000b},
		{api.Ins{Op: api.Clwb, B: 7, Imm: -2}, 0xfffffffe0000700c},
		{api.Ins{Op: api.Opt, Imm: 64}, 0x400000000d},
		{api.Ins{Op: api.Flush, B: 1}, 0x100e},
		{api.Ins{Op: api.Sfen}, 0xf},
		{api.Ins{Op: api.Mfen}, 0x10},
		{api.Ins{Op: api.Jmp, Imm: 4096}, 0x100000000011},
		{api.Ins{Op: api.Beq, A: 1, B: 2, Imm: 3}, 0x300002112},
		{api.Ins{Op: api.Blt, A: 7, Imm: math.MaxInt32}, 0x7fffffff00000714},
		{api.Ins{Op: api.Tell, A: 7}, 0x715},
		{api.Ins{Op: api.Halt}, 0x16},
	} {
		checkIs(t, x.i, x.u)
	}
}

// P10.1, P10.2: each operation with all numbers about the bounds of its parts, good and not, beside the chapter's words.
func TestEachInstruction(t *testing.T) {
	for _, r := range rows {
		good := 0
		r.all(func(i api.Ins) {
			if !r.takes(i.A, i.B, i.C, i.Imm) {
				checkNone(t, i)
				return
			}
			good++
			checkIs(t, i, r.word(i.A, i.B, i.C, i.Imm))
		})
		if good == 0 {
			t.Errorf("no instruction of operation %d was good", r.op)
		}
		if t.Failed() {
			return
		}
	}
}

// P10.1: what one part is wrong by, where all others are good: what the operation has not is zero, what it has is within its bounds.
func TestOneWrongPart(t *testing.T) {
	for _, r := range rows {
		checkIs(t, api.Ins{Op: r.op}, uint64(r.number))
		for letter, set := range map[string]func(reg int) api.Ins{
			"A": func(reg int) api.Ins { return api.Ins{Op: r.op, A: reg} },
			"B": func(reg int) api.Ins { return api.Ins{Op: r.op, B: reg} },
			"C": func(reg int) api.Ins { return api.Ins{Op: r.op, C: reg} },
		} {
			for _, reg := range []int{math.MinInt, -8, -1, 8, 15, 16, 1 << 32, math.MaxInt} {
				checkNone(t, set(reg))
			}
			for reg := 1; reg < 8; reg++ {
				if got, want := isa.Good(set(reg)), strings.Contains(r.has, letter); got != want {
					t.Errorf("Good(%v): %v; want %v", set(reg), got, want)
				}
			}
		}
		for _, imm := range []int64{math.MinInt64, -1 << 32, math.MinInt32 - 1, math.MaxInt32 + 1, 1 << 32, math.MaxInt64} {
			checkNone(t, api.Ins{Op: r.op, Imm: imm})
		}
		hasImm := strings.Contains(r.has, "I")
		for imm, want := range map[int64]bool{1: hasImm, math.MaxInt32: hasImm, -1: hasImm && !r.jumps(), math.MinInt32: hasImm && !r.jumps()} {
			if got := isa.Good(api.Ins{Op: r.op, Imm: imm}); got != want {
				t.Errorf("Good of operation %d, Imm %d: %v; want %v", r.op, imm, got, want)
			}
		}
	}
}

// P10.1, P10.2: each word of operation and registers, with some Imms: an instruction whose word it is, or none.
func TestEachLowWord(t *testing.T) {
	for _, imm := range []int64{0, 1, math.MaxInt32, math.MinInt32, -1} {
		for low := range uint64(1 << 20) {
			op, a, b, c := int(low%256), int(low/256%16), int(low/4096%16), int(low/65536)
			u := low + uint64(uint32(imm))*4294967296
			if op >= len(rows) || !rows[op].takes(a, b, c, imm) {
				checkNoWord(t, u)
				continue
			}
			i, err := isa.Decode(u)
			if want := (api.Ins{Op: op, A: a, B: b, C: c, Imm: imm}); i != want || err != api.OK {
				t.Fatalf("Decode(%x): %v, %d; want %v", u, i, err, want)
			}
			if back, err := isa.Encode(i); back != u || err != api.OK {
				t.Fatalf("Encode(%v): %x, %d; want %x", i, back, err, u)
			}
		}
		if t.Failed() {
			return
		}
	}
}

// P10.1: a word with any of the bits 20 to 31 is none, whatever else it has.
func TestBitsBetween(t *testing.T) {
	for _, r := range rows {
		for bit := 20; bit < 32; bit++ {
			u := uint64(1) << bit
			checkNoWord(t, uint64(r.number)+u)
			checkNoWord(t, uint64(r.number)+u+1<<32)
			checkNoWord(t, uint64(r.number)+u+math.MaxUint32<<32)
		}
		checkNoWord(t, uint64(r.number)+0xfff00000)
	}
	checkNoWord(t, math.MaxUint64)
}

// P10.2: one bit more or less makes another instruction or none, never the same one.
func TestOneBit(t *testing.T) {
	for _, r := range rows {
		for _, imm := range []int64{0, 5, math.MaxInt32} {
			i := api.Ins{Op: r.op, A: 5, B: 2, C: 7, Imm: imm}
			for letter, part := range map[string]*int{"A": &i.A, "B": &i.B, "C": &i.C} {
				if !strings.Contains(r.has, letter) {
					*part = 0
				}
			}
			if !strings.Contains(r.has, "I") {
				i.Imm = 0
			}
			u, err := isa.Encode(i)
			if err != api.OK {
				t.Fatalf("Encode(%v): %d", i, err)
			}
			for bit := range 64 {
				other, err := isa.Decode(u ^ 1<<bit)
				if err != api.OK {
					checkNoWord(t, u^1<<bit)
					continue
				}
				if back, err := isa.Encode(other); back != u^1<<bit || err != api.OK || other == i {
					t.Errorf("Decode(%x): %v, and of that Encode: %x, %d", u^1<<bit, other, back, err)
				}
			}
		}
	}
}

// P10.1: an answer hangs on nothing that was asked before.
func TestAskedAgain(t *testing.T) {
	ask := func() []string {
		var texts []string
		for op := -3; op < 30; op++ {
			texts = append(texts, isa.Has(op))
		}
		return texts
	}
	first := ask()
	isa.Encode(api.Ins{Op: -1})
	isa.Decode(math.MaxUint64)
	if again := ask(); !slices.Equal(first, again) {
		t.Errorf("Has of each operation: %q; at first %q", again, first)
	}
}
