package alu_test

import (
	"math"
	"math/big"
	"testing"

	"bellows/alu"
	"bellows/api"
)

const (
	most = math.MaxUint64
	top  = 1 << 63
)

// noOps are numbers of no operation; some come to one where bits are lost.
var noOps = []int{
	math.MinInt, math.MinInt + api.Add, -1 << 32, -1<<32 + api.Add, -1<<32 + api.Jmp, -256 + api.Jmp, -23, -api.Blt, -api.Add, -1,
	23, 24, 32, 64, 99, 255, 256 + api.Add, 256 + api.Jmp, 1 << 16, 1<<32 + api.Add, 1<<32 + api.Jmp, math.MaxInt - 1, math.MaxInt,
}

// values are numbers about the bounds of words, of what has a sign and of shifts, and some with bits here and there.
var values = []uint64{
	0, 1, 2, 3, 5, 7, 8, 31, 32, 33, 62, 63, 64, 65, 66, 127, 128, 129, 255, 256, 257, 1000,
	1<<31 - 1, 1 << 31, 1<<32 - 1, 1 << 32, 1<<32 + 1, 1<<32 + 33, 1<<62 + 5,
	top - 2, top - 1, top, top + 1, top + 63, most - 64, most - 63, most - 62, most - 1, most,
	0x5555555555555555, 0xaaaaaaaaaaaaaaaa, 0x0123456789abcdef, 0xfedcba9876543210, 0x8000000080000001,
}

func isDo(op int) bool   { return op >= 2 && op <= 7 }
func isJump(op int) bool { return op >= 17 && op <= 20 }

// wide is v as a number without an end.
func wide(v uint64) *big.Int { return new(big.Int).SetUint64(v) }

// narrow is what of n lies within 64 bits, from 0 on.
func narrow(n *big.Int) uint64 {
	return new(big.Int).Mod(n, new(big.Int).Lsh(big.NewInt(1), 64)).Uint64()
}

// reckoned tells by the chapter's words what an operation reckons, by numbers without an end.
func reckoned(op int, b, c uint64) uint64 {
	wideB, wideC, n := wide(b), wide(c), new(big.Int)
	by := uint(new(big.Int).Mod(wideC, big.NewInt(64)).Uint64())
	switch op {
	case api.Add:
		n.Add(wideB, wideC)
	case api.Sub:
		n.Sub(wideB, wideC)
	case api.And:
		n.And(wideB, wideC)
	case api.Xor:
		n.Xor(wideB, wideC)
	case api.Shl:
		n.Lsh(wideB, by)
	case api.Shr:
		n.Rsh(wideB, by)
	}
	return narrow(n)
}

// goes tells by the chapter's words whether a jump goes.
func goes(op int, a, b uint64) bool {
	held := wide(a).Cmp(wide(b))
	switch op {
	case api.Beq:
		return held == 0
	case api.Bne:
		return held != 0
	case api.Blt:
		return held < 0
	}
	return op == api.Jmp
}

func checkDo(t *testing.T, op int, b, c, want uint64) {
	t.Helper()
	if got, ok := alu.Do(op, b, c); got != want || !ok {
		t.Errorf("Do(%d, %x, %x): %x, %v; want %x, true", op, b, c, got, ok, want)
	}
}

func checkGoes(t *testing.T, op int, a, b uint64, want bool) {
	t.Helper()
	if got, ok := alu.Goes(op, a, b); got != want || !ok {
		t.Errorf("Goes(%d, %x, %x): %v, %v; want %v, true", op, a, b, got, ok, want)
	}
}

// P11.1: what is reckoned, put down by hand.
func TestDoByHand(t *testing.T) {
	for _, x := range []struct {
		op         int
		b, c, want uint64
	}{
		{api.Add, 0, 0, 0}, {api.Add, 5, 7, 12}, {api.Add, most, 1, 0}, {api.Add, most, most, most - 1}, {api.Add, top, top, 0}, {api.Add, 1<<32 - 1, 1, 1 << 32},
		{api.Sub, 7, 5, 2}, {api.Sub, 5, 7, most - 1}, {api.Sub, 0, 1, most}, {api.Sub, 0, most, 1}, {api.Sub, 5, 5, 0}, {api.Sub, 0, top, top},
		{api.And, 12, 10, 8}, {api.And, most, 5, 5}, {api.And, 5, 0, 0}, {api.And, top + 1, most - 1, top},
		{api.Xor, 12, 10, 6}, {api.Xor, most, 5, most - 5}, {api.Xor, 5, 5, 0}, {api.Xor, top, 1, top + 1},
		{api.Shl, 1, 0, 1}, {api.Shl, 1, 63, top}, {api.Shl, 3, 63, top}, {api.Shl, 5, 64, 5}, {api.Shl, 1, 65, 2}, {api.Shl, 2, 63, 0}, {api.Shl, 1, most, top}, {api.Shl, 3, top, 3}, {api.Shl, 3, 1<<32 + 4, 48},
		{api.Shr, 8, 0, 8}, {api.Shr, 8, 3, 1}, {api.Shr, 8, 4, 0}, {api.Shr, top, 63, 1}, {api.Shr, most, 1, top - 1}, {api.Shr, 5, 64, 5}, {api.Shr, 4, 65, 2}, {api.Shr, 8, most, 0}, {api.Shr, 48, 1<<32 + 4, 3},
	} {
		checkDo(t, x.op, x.b, x.c, x.want)
	}
}

// P11.1: each operation that reckons, with all pairs of values, beside numbers without an end.
func TestDoEachPair(t *testing.T) {
	for _, op := range []int{api.Add, api.Sub, api.And, api.Xor, api.Shl, api.Shr} {
		for _, b := range values {
			for _, c := range values {
				checkDo(t, op, b, c, reckoned(op, b, c))
			}
		}
	}
}

// P11.1: a shift goes by c modulo 64, whatever stands above it.
func TestShiftsModulo64(t *testing.T) {
	for by := range uint64(64) {
		for _, above := range []uint64{0, 64, 128, 192, 256, 1 << 16, 1 << 32, top, most - 63} {
			checkDo(t, api.Shl, 1, above+by, wordOfBit(by))
			checkDo(t, api.Shr, top, above+by, wordOfBit(63-by))
		}
	}
}

// wordOfBit is the word in which that bit alone stands, reckoned without shifts.
func wordOfBit(bit uint64) uint64 {
	word := uint64(1)
	for range bit {
		word += word
	}
	return word
}

// P11.1: Do is false of all that reckons nothing, jumps and numbers of no operation too.
func TestDoOfOthers(t *testing.T) {
	done := 0
	check := func(op int) {
		for _, b := range []uint64{0, 1, 5, top, most} {
			for _, c := range []uint64{0, 1, 5, 7, most} {
				if got, ok := alu.Do(op, b, c); got != 0 || ok {
					t.Errorf("Do(%d, %x, %x): %x, %v; want 0, false", op, b, c, got, ok)
				}
			}
		}
	}
	for op := api.Nop; op <= api.Halt; op++ {
		if isDo(op) {
			done++
			continue
		}
		check(op)
	}
	if done != 6 {
		t.Errorf("%d operations reckon; want 6", done)
	}
	for _, op := range noOps {
		check(op)
	}
}

// P11.1: whether jumps go, put down by hand.
func TestGoesByHand(t *testing.T) {
	for _, x := range []struct {
		op   int
		a, b uint64
		want bool
	}{
		{api.Jmp, 0, 0, true}, {api.Jmp, 5, 6, true}, {api.Jmp, 6, 5, true}, {api.Jmp, most, 0, true},
		{api.Beq, 0, 0, true}, {api.Beq, most, most, true}, {api.Beq, 5, 6, false}, {api.Beq, 6, 5, false}, {api.Beq, 1, 1<<32 + 1, false}, {api.Beq, 0, top, false},
		{api.Bne, 0, 0, false}, {api.Bne, most, most, false}, {api.Bne, 5, 6, true}, {api.Bne, 6, 5, true}, {api.Bne, 1, 1<<32 + 1, true}, {api.Bne, 0, top, true},
		{api.Blt, 5, 6, true}, {api.Blt, 6, 5, false}, {api.Blt, 5, 5, false}, {api.Blt, 0, 0, false}, {api.Blt, 0, most, true}, {api.Blt, most, 0, false},
		{api.Blt, top - 1, top, true}, {api.Blt, top, top - 1, false}, {api.Blt, top, most, true}, {api.Blt, most, most, false}, {api.Blt, 1 << 32, 1, false},
	} {
		checkGoes(t, x.op, x.a, x.b, x.want)
	}
}

// P11.1: each jump, with all pairs of values, beside numbers without an end.
func TestGoesEachPair(t *testing.T) {
	for _, op := range []int{api.Jmp, api.Beq, api.Bne, api.Blt} {
		for _, a := range values {
			for _, b := range values {
				checkGoes(t, op, a, b, goes(op, a, b))
			}
		}
	}
}

// P11.1: the second answer is false of all that is no jump, what reckons and numbers of no operation too; then the first one is false as well.
func TestGoesOfOthers(t *testing.T) {
	jumps := 0
	check := func(op int) {
		for _, a := range []uint64{0, 5, 6, most} {
			for _, b := range []uint64{0, 5, 6, most} {
				if got, ok := alu.Goes(op, a, b); got || ok {
					t.Errorf("Goes(%d, %x, %x): %v, %v; want false, false", op, a, b, got, ok)
				}
			}
		}
	}
	for op := api.Nop; op <= api.Halt; op++ {
		if isJump(op) {
			jumps++
			continue
		}
		check(op)
	}
	if jumps != 4 {
		t.Errorf("%d jumps; want 4", jumps)
	}
	for _, op := range noOps {
		check(op)
	}
}

// P11.1: b and imm together, put down by hand, and with many numbers beside numbers without an end.
func TestSum(t *testing.T) {
	for _, x := range []struct {
		b    uint64
		imm  int64
		want uint64
	}{
		{0, 0, 0}, {5, 7, 12}, {5, -7, most - 1}, {16, -16, 0}, {0, -1, most}, {most, 1, 0}, {most, -1, most - 1}, {most, math.MaxInt64, top - 2},
		{0, math.MinInt64, top}, {top, math.MinInt64, 0}, {0, math.MaxInt64, top - 1}, {1, math.MaxInt64, top}, {64, math.MinInt32, most - 1<<31 + 65}, {1<<32 - 1, 1, 1 << 32},
	} {
		if got := alu.Sum(x.b, x.imm); got != x.want {
			t.Errorf("Sum(%x, %d): %x; want %x", x.b, x.imm, got, x.want)
		}
	}
	for _, b := range values {
		for _, v := range values {
			imm := int64(v)
			want := narrow(new(big.Int).Add(wide(b), big.NewInt(imm)))
			if got := alu.Sum(b, imm); got != want {
				t.Errorf("Sum(%x, %d): %x; want %x", b, imm, got, want)
			}
		}
	}
}

// P11.2: Sub undoes Add, Add undoes Sub, and Xor undoes Xor, whichever comes first.
func TestUndo(t *testing.T) {
	for _, pair := range [][2]int{{api.Add, api.Sub}, {api.Sub, api.Add}, {api.Xor, api.Xor}} {
		for _, b := range values {
			for _, c := range values {
				there, _ := alu.Do(pair[0], b, c)
				back, ok := alu.Do(pair[1], there, c)
				if back != b || !ok {
					t.Errorf("operation %d of %x and %x, and %d of that: %x, %v", pair[0], b, c, pair[1], back, ok)
				}
			}
		}
	}
}

// P11.1: an answer hangs on nothing that was asked before.
func TestAskedAgain(t *testing.T) {
	type answer struct {
		v            uint64
		ok, goes, is bool
	}
	ask := func(op int) answer {
		v, ok := alu.Do(op, 5, 7)
		goes, is := alu.Goes(op, 5, 7)
		return answer{v, ok, goes, is}
	}
	first := map[int]answer{}
	for op := -30; op < 60; op++ {
		first[op] = ask(op)
	}
	for op := 59; op >= -30; op-- {
		if again := ask(op); again != first[op] {
			t.Errorf("operation %d: %+v; at first %+v", op, again, first[op])
		}
	}
}
