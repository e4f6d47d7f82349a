package array_test

import (
	"math"
	"slices"
	"testing"

	"bellows/api"
	"bellows/array"
)

// setCounts are the numbers of sets that an L1 may have.
var setCounts = []int{1, 2, 4, 8}

// belowZero are no lines.
var belowZero = []int{math.MinInt, math.MinInt + 1, math.MinInt + 3, -1 << 32, -1<<32 + 3, -65, -64, -8, -4, -3, -2, -1}

// noStates are states that no line in a slot may have; some come to good ones where bits are lost.
var noStates = []int{math.MinInt, math.MinInt + 1, -255, -9, -1, 0, 10, 11, 16, 255, 257, 1 << 32, 1<<32 + 1, math.MaxInt}

// words is a line, all words of which hang on n; none is 0.
func words(n int) api.Line {
	var l api.Line
	for w := range l {
		l[w] = uint64(n)<<32 + uint64(w) + 1
	}
	return l
}

func newArray(t *testing.T, sets, ways int) *array.Array {
	t.Helper()
	a, e := array.New(sets, ways)
	if a == nil || e != api.OK {
		t.Fatalf("New(%d, %d): %v, %d; want an array", sets, ways, a, e)
	}
	return a
}

// set sets the line, whose words are words(line).
func set(t *testing.T, a *array.Array, line, state int) {
	t.Helper()
	if e := a.Set(line, state, words(line)); e != api.OK {
		t.Fatalf("Set(%d, %d): %d", line, state, e)
	}
}

// slot is what set makes of a slot.
func slot(line, state, used int) array.Slot {
	return array.Slot{State: state, Line: line, Data: words(line), Used: used}
}

func checkSlots(t *testing.T, a *array.Array, what string, want ...array.Slot) {
	t.Helper()
	if got := a.Slots(); !slices.Equal(got, want) {
		t.Errorf("%s: Slots %v; want %v", what, got, want)
	}
}

func checkFind(t *testing.T, a *array.Array, what string, line int, want array.Slot, ok bool) {
	t.Helper()
	if got, gotOK := a.Find(line); got != want || gotOK != ok {
		t.Errorf("%s: Find(%d): %v, %v; want %v, %v", what, line, got, gotOK, want, ok)
	}
}

func checkRoom(t *testing.T, a *array.Array, what string, line int, free bool, victim int) {
	t.Helper()
	if gotFree, got := a.Room(line); gotFree != free || got != victim {
		t.Errorf("%s: Room(%d): %v, %d; want %v, %d", what, line, gotFree, got, free, victim)
	}
}

func checkSet(t *testing.T, a *array.Array, what string, line, state int, want api.Errno) {
	t.Helper()
	if e := a.Set(line, state, words(line)); e != want {
		t.Errorf("%s: Set(%d, %d): %d; want %d", what, line, state, e, want)
	}
}

func checkDrop(t *testing.T, a *array.Array, what string, line int, want bool) {
	t.Helper()
	if got := a.Drop(line); got != want {
		t.Errorf("%s: Drop(%d): %v; want %v", what, line, got, want)
	}
}

// P5.1: every shape that there is, and those beside them: all slots are empty, as many a set as there are ways.
func TestNewEveryShape(t *testing.T) {
	for sets := -9; sets <= 70; sets++ {
		for ways := -9; ways <= 20; ways++ {
			if slices.Contains(setCounts, sets) && ways >= 1 && ways <= 8 {
				checkNew(t, sets, ways)
			} else if a, e := array.New(sets, ways); a != nil || e != api.ErrArg {
				t.Errorf("New(%d, %d): %v, %d; want nil, ErrArg", sets, ways, a, e)
			}
		}
	}
}

// checkNew fills an array of that shape, set behind set, and holds that no more lines fit.
func checkNew(t *testing.T, sets, ways int) {
	t.Helper()
	a := newArray(t, sets, ways)
	checkSlots(t, a, "new")
	used := 0
	var want []array.Slot
	for s := range sets {
		for way := range ways {
			line := s + way*sets
			checkFind(t, a, "ahead of Set", line, array.Slot{}, false)
			checkRoom(t, a, "ahead of Set", line, true, -1)
			set(t, a, line, api.Shd)
			used++
			want = append(want, slot(line, api.Shd, used))
		}
		checkRoom(t, a, "a full set", s+ways*sets, false, s)
		checkSet(t, a, "a full set", s+ways*sets, api.Shd, api.ErrFull)
	}
	checkSlots(t, a, "full", want...)
}

// P5.1: numbers far from those of any array.
func TestNewWrong(t *testing.T) {
	far := []int{math.MinInt, math.MinInt + 1, math.MinInt + 4, -1 << 32, -1<<32 + 4, 256, 257, 260, 1 << 31, 1 << 32, 1<<32 + 1, 1<<32 + 4, math.MaxInt - 1, math.MaxInt}
	for _, n := range far {
		for _, other := range append([]int{1, 4, 8}, far...) {
			for _, x := range [][2]int{{n, other}, {other, n}} {
				if a, e := array.New(x[0], x[1]); a != nil || e != api.ErrArg {
					t.Errorf("New(%d, %d): %v, %d; want nil, ErrArg", x[0], x[1], a, e)
				}
			}
		}
	}
}

// P5.1: what is told of nil.
func TestNil(t *testing.T) {
	var a *array.Array
	for _, line := range append(slices.Clone(belowZero), 0, 1, 3, 63, 64, math.MaxInt) {
		checkFind(t, a, "nil", line, array.Slot{}, false)
		checkRoom(t, a, "nil", line, false, -1)
		for state := -1; state <= 10; state++ {
			checkSet(t, a, "nil", line, state, api.ErrArg)
		}
		a.Touch(line)
		checkDrop(t, a, "nil", line, false)
	}
	checkSlots(t, a, "nil")
}

// P5.1: the slot that has the line is told whole, in every set and way; no other line of the set is found.
func TestFind(t *testing.T) {
	for _, sets := range setCounts {
		a := newArray(t, sets, 8)
		lines := 8 * sets
		for line := range lines {
			set(t, a, line, 1+line%9)
		}
		for line := range lines {
			checkFind(t, a, "full", line, slot(line, 1+line%9, line+1), true)
		}
		for line := lines; line < 3*lines; line++ {
			checkFind(t, a, "full", line, array.Slot{}, false)
		}
		for _, line := range append([]int{1 << 32, 1<<32 + 1, math.MaxInt}, belowZero...) {
			checkFind(t, a, "full", line, array.Slot{}, false)
		}
	}
}

// P5.1: line 0 is not in an empty slot, and is found where it was set.
func TestFindLineZero(t *testing.T) {
	a := newArray(t, 2, 2)
	checkFind(t, a, "new", 0, array.Slot{}, false)
	checkDrop(t, a, "new", 0, false)
	a.Touch(0)
	set(t, a, 2, api.Exc)
	checkFind(t, a, "beside line 2", 0, array.Slot{}, false)
	set(t, a, 0, api.Mod)
	checkFind(t, a, "set", 0, slot(0, api.Mod, 2), true)
	checkSlots(t, a, "set", slot(2, api.Exc, 1), slot(0, api.Mod, 2))
}

// P5.1: a line may lie far above those of a memory.
func TestGreatLines(t *testing.T) {
	a := newArray(t, 4, 1)
	set(t, a, math.MaxInt, api.Shd) // set 3
	set(t, a, 1<<32, api.Exc)       // set 0
	set(t, a, 1<<32+2, api.Mod)     // set 2
	checkSlots(t, a, "great", slot(1<<32, api.Exc, 2), slot(1<<32+2, api.Mod, 3), slot(math.MaxInt, api.Shd, 1))
	checkRoom(t, a, "great", 3, false, math.MaxInt)
	checkRoom(t, a, "great", 1, true, -1)
	checkFind(t, a, "great", 0, array.Slot{}, false)
	checkSet(t, a, "great", 0, api.Shd, api.ErrFull)
	checkDrop(t, a, "great", math.MaxInt, true)
	checkDrop(t, a, "great", 2, false)
}

// P5.1: set by set, way by way, whatever came first.
func TestSlotsOrder(t *testing.T) {
	a := newArray(t, 4, 2)
	for _, line := range []int{7, 2, 3, 1, 6, 4} {
		set(t, a, line, api.Exc)
	}
	checkSlots(t, a, "set", slot(4, api.Exc, 6), slot(1, api.Exc, 4), slot(2, api.Exc, 2), slot(6, api.Exc, 5), slot(7, api.Exc, 1), slot(3, api.Exc, 3))
	a.Touch(7)
	a.Touch(2)
	checkSlots(t, a, "touched", slot(4, api.Exc, 6), slot(1, api.Exc, 4), slot(2, api.Exc, 8), slot(6, api.Exc, 5), slot(7, api.Exc, 7), slot(3, api.Exc, 3))
	checkDrop(t, a, "touched", 2, true)
	checkDrop(t, a, "touched", 1, true)
	checkSlots(t, a, "dropped", slot(4, api.Exc, 6), slot(6, api.Exc, 5), slot(7, api.Exc, 7), slot(3, api.Exc, 3))
}

// P5.2: the chapter's example.
func TestExample(t *testing.T) {
	a := newArray(t, 1, 1)
	checkRoom(t, a, "new", 4, true, -1)
	set(t, a, 3, api.Shd)
	checkRoom(t, a, "set", 4, false, 3)
	checkRoom(t, a, "set", 3, false, 3)
}

// P5.2: room is that of the line's own set.
func TestRoomOfEachSet(t *testing.T) {
	for _, sets := range setCounts {
		for full := range sets {
			a := newArray(t, sets, 2)
			set(t, a, full+sets, api.Mod)
			checkRoom(t, a, "one of two", full, true, -1)
			set(t, a, full+5*sets, api.Shd)
			for line := range 10 * sets {
				if line%sets == full {
					checkRoom(t, a, "full", line, false, full+sets)
				} else {
					checkRoom(t, a, "beside the full set", line, true, -1)
				}
			}
		}
	}
}

// P5.2: of what is at rest the one goes that was used longest ago, in whichever way it stands.
func TestRoomVictim(t *testing.T) {
	for ways := 1; ways <= 8; ways++ {
		for _, first := range []int{0, ways / 2, ways - 1} {
			a := newArray(t, 2, ways)
			for way := range ways {
				set(t, a, 1+2*way, api.Shd+way%3)
			}
			for way := range ways { // a new order: first, first + 1 .. and from 0 on
				a.Touch(1 + 2*((first+way)%ways))
			}
			for way := range ways {
				victim := 1 + 2*((first+way)%ways)
				checkRoom(t, a, "full", 99, false, victim)
				set(t, a, victim, api.Shd) // its own slot, used now
			}
			checkRoom(t, a, "full", 99, false, 1+2*first)
		}
	}
}

// P5.2: a line on its way is no victim, however long ago it was used, but it takes its slot.
func TestRoomOnTheirWay(t *testing.T) {
	for state := api.Shd; state <= api.Dirty; state++ {
		a := newArray(t, 1, 2)
		set(t, a, 5, state)
		checkRoom(t, a, "one", 6, true, -1)
		set(t, a, 7, api.Up)
		isAtRest := state == api.Shd || state == api.Exc || state == api.Mod
		if isAtRest {
			checkRoom(t, a, "beside Up", 6, false, 5)
		} else {
			checkRoom(t, a, "beside Up", 6, false, -1)
		}
		set(t, a, 7, api.Exc)
		if isAtRest {
			checkRoom(t, a, "beside Exc", 6, false, 5)
		} else {
			checkRoom(t, a, "beside Exc", 6, false, 7)
		}
	}
}

// P5.2: no line below 0 has room, in an empty array or a full one.
func TestBelowZero(t *testing.T) {
	for _, sets := range setCounts {
		a := newArray(t, sets, 1)
		var want []array.Slot
		for line := range sets + 1 {
			for _, no := range belowZero {
				checkFind(t, a, "below 0", no, array.Slot{}, false)
				checkRoom(t, a, "below 0", no, false, -1)
				checkSet(t, a, "below 0", no, api.Shd, api.ErrArg)
				a.Touch(no)
				checkDrop(t, a, "below 0", no, false)
			}
			checkSlots(t, a, "below 0", want...)
			if line < sets {
				set(t, a, line, api.Mod)
				want = append(want, slot(line, api.Mod, line+1))
			}
		}
	}
}

// P5.2: each state of a line may be set; no other one, whether there is room, the line, or neither.
func TestSetStates(t *testing.T) {
	a := newArray(t, 1, 1)
	used := 0
	for state := 1; state <= 9; state++ {
		for _, no := range noStates {
			checkSet(t, a, "no state", 3, no, api.ErrArg)
		}
		used++
		checkSet(t, a, "a state", 3, state, api.OK)
		for _, no := range noStates {
			checkSet(t, a, "no state", 3, no, api.ErrArg)
			checkSet(t, a, "no state", 4, no, api.ErrArg)
		}
		checkSet(t, a, "full", 4, state, api.ErrFull)
		checkSlots(t, a, "set", slot(3, state, used))
		if state%2 == 0 {
			checkDrop(t, a, "set", 3, true)
		}
	}
}

// P5.2: a line that is there stays in its slot, its state and words new, its number too; in a full set as well.
func TestSetAgain(t *testing.T) {
	a := newArray(t, 2, 2)
	set(t, a, 1, api.Shd)
	set(t, a, 3, api.Exc)
	x := api.Line{math.MaxUint64, 0, 1 << 63, 7, 6, 5, 4, 3}
	if e := a.Set(3, api.Dirty, x); e != api.OK {
		t.Errorf("Set(3) again: %d", e)
	}
	checkSlots(t, a, "3 again", slot(1, api.Shd, 1), array.Slot{State: api.Dirty, Line: 3, Data: x, Used: 3})
	if e := a.Set(1, api.Gone, api.Line{}); e != api.OK {
		t.Errorf("Set(1) again: %d", e)
	}
	want := []array.Slot{{State: api.Gone, Line: 1, Used: 4}, {State: api.Dirty, Line: 3, Data: x, Used: 3}}
	checkSlots(t, a, "1 again", want...)
	checkSet(t, a, "full", 5, api.Shd, api.ErrFull)
	checkSlots(t, a, "full", want...)
}

// P5.2: a new line takes the first empty slot; one that is there keeps its own, though an earlier one is empty.
func TestSetFirstEmpty(t *testing.T) {
	a := newArray(t, 1, 4)
	for line := range 4 {
		set(t, a, line, api.Shd)
	}
	checkDrop(t, a, "full", 2, true)
	checkDrop(t, a, "full", 0, true)
	set(t, a, 3, api.Mod)
	checkSlots(t, a, "3 again", slot(1, api.Shd, 2), slot(3, api.Mod, 5))
	checkRoom(t, a, "3 again", 9, true, -1)
	set(t, a, 9, api.ToS)
	checkSlots(t, a, "9", slot(9, api.ToS, 6), slot(1, api.Shd, 2), slot(3, api.Mod, 5))
	set(t, a, 8, api.ToM)
	checkSlots(t, a, "8", slot(9, api.ToS, 6), slot(1, api.Shd, 2), slot(8, api.ToM, 7), slot(3, api.Mod, 5))
	checkSet(t, a, "full again", 7, api.Shd, api.ErrFull)
	checkRoom(t, a, "full again", 7, false, 1)
}

// P5.2: Touch gives a new number and changes nothing else; without the line it gives none.
func TestTouch(t *testing.T) {
	a := newArray(t, 2, 2)
	set(t, a, 0, api.Up)
	set(t, a, 2, api.Mod)
	for n := range 3 {
		a.Touch(0)
		checkSlots(t, a, "touched", slot(0, api.Up, 3+n), slot(2, api.Mod, 2))
		for _, no := range []int{1, 3, 4, 6, 64, math.MaxInt} {
			a.Touch(no)
		}
	}
	a.Touch(2)
	checkSlots(t, a, "touched", slot(0, api.Up, 5), slot(2, api.Mod, 6))
	checkDrop(t, a, "touched", 2, true)
	a.Touch(2)
	checkSlots(t, a, "dropped", slot(0, api.Up, 5))
	set(t, a, 2, api.Shd)
	checkSlots(t, a, "set", slot(0, api.Up, 5), slot(2, api.Shd, 7))
}

// P5.2: numbers are given by Set and Touch alone, one more each time, in all sets together, and never again.
func TestNumbers(t *testing.T) {
	a := newArray(t, 4, 1)
	for n := range 50 {
		line := n % 4
		set(t, a, line, api.Exc)
		checkFind(t, a, "set", line, slot(line, api.Exc, 2*n+1), true)
		a.Find(line)
		a.Room(line)
		a.Slots()
		checkSet(t, a, "full", line+4, api.Shd, api.ErrFull)
		checkSet(t, a, "no state", line, api.Inv, api.ErrArg)
		a.Touch(line + 4)
		a.Touch(line)
		checkFind(t, a, "touched", line, slot(line, api.Exc, 2*n+2), true)
		checkDrop(t, a, "touched", line, true)
		checkDrop(t, a, "gone", line, false)
	}
}

// P5.2: Drop empties that slot alone, whatever its state; nothing of the line is left.
func TestDrop(t *testing.T) {
	for state := 1; state <= 9; state++ {
		for gone := range 6 {
			a := newArray(t, 2, 3)
			var want []array.Slot
			for _, line := range []int{0, 2, 4, 1, 3, 5} {
				set(t, a, line, state)
				if line != gone {
					want = append(want, slot(line, state, line/2+3*(line%2)+1))
				}
			}
			checkDrop(t, a, "no such line", gone+6, false)
			checkDrop(t, a, "full", gone, true)
			checkDrop(t, a, "again", gone, false)
			checkFind(t, a, "dropped", gone, array.Slot{}, false)
			checkRoom(t, a, "dropped", gone, true, -1)
			checkRoom(t, a, "dropped", gone+2, true, -1)
			checkSlots(t, a, "dropped", want...)
		}
	}
}

// What is told is new memory, its spare room too; what was handed in is not kept.
func TestSlotsAreNew(t *testing.T) {
	a := newArray(t, 2, 2)
	for line := range 3 {
		set(t, a, line, api.Shd)
	}
	one, two := a.Slots(), a.Slots()
	clear(one[:cap(one)])
	checkSlots(t, a, "behind a changed answer", two...)
	if s, ok := a.Find(1); !ok || s != slot(1, api.Shd, 2) {
		t.Errorf("Find(1) behind a changed answer: %v, %v", s, ok)
	}
	for _, s := range two[:cap(two)][len(two):] {
		if s != (array.Slot{}) {
			t.Errorf("the spare room has %v", s)
		}
	}
}

// Two arrays share nothing, no numbers either.
func TestArraysAreApart(t *testing.T) {
	one, two := newArray(t, 1, 2), newArray(t, 1, 2)
	set(t, one, 5, api.Mod)
	one.Touch(5)
	checkSlots(t, two, "untouched")
	set(t, two, 6, api.Shd)
	checkSlots(t, two, "set", slot(6, api.Shd, 1))
	checkSlots(t, one, "set", slot(5, api.Mod, 2))
}
