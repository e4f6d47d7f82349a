package agent_test

import (
	"math"
	"slices"
	"testing"

	"bellows/agent"
	"bellows/api"
	"bellows/array"
)

// The chapter's example.
func TestExample(t *testing.T) {
	a := newAgent(t, 1, 1)
	checkLoad(t, a, "new", 3, 4, 0, false, ask(api.GetS, 3))
	checkHear(t, a, "asked", told(api.DataE, 3), api.OK)
	checkSlot(t, a, "told", 3, api.Exc, given(3))
	checkLoad(t, a, "told", 3, 4, given(3)[4], true)
}

// P8.1: every shape that an L1 may have, and those beside them: a new agent has no line, and is idle.
func TestNewEveryShape(t *testing.T) {
	for sets := -9; sets <= 70; sets++ {
		for ways := -9; ways <= 20; ways++ {
			if slices.Contains([]int{1, 2, 4, 8}, sets) && ways >= 1 && ways <= 8 {
				checkNew(t, sets, ways)
			} else if a, e := agent.New(sets, ways); a != nil || e != api.ErrArg {
				t.Errorf("New(%d, %d): %v, %d; want nil, ErrArg", sets, ways, a, e)
			}
		}
	}
	for _, n := range []int{math.MinInt, -1 << 32, -1<<32 + 4, 1 << 32, 1<<32 + 1, 257, math.MaxInt} {
		for _, x := range [][2]int{{n, 1}, {1, n}, {n, n}} {
			if a, e := agent.New(x[0], x[1]); a != nil || e != api.ErrArg {
				t.Errorf("New(%d, %d): %v, %d; want nil, ErrArg", x[0], x[1], a, e)
			}
		}
	}
}

// checkNew fills all sets of a new agent; the next line of each set then wants room, that of the first one.
func checkNew(t *testing.T, sets, ways int) {
	t.Helper()
	a := newAgent(t, sets, ways)
	checkSlots(t, a, "new")
	if !a.Idle() {
		t.Errorf("New(%d, %d) is not idle", sets, ways)
	}
	for line := range sets * ways {
		checkLoad(t, a, "not full", line, 0, 0, false, ask(api.GetS, line))
		hear(t, a, told(api.DataS, line))
	}
	if got := len(a.Slots()); got != sets*ways {
		t.Errorf("%d sets, %d ways: %d lines", sets, ways, got)
	}
	for set := range sets {
		if line := sets*ways + set; line < api.MaxLines {
			checkLoad(t, a, "full", line, 0, 0, false, ask(api.Put, set))
			hear(t, a, told(api.PutAck, set))
		}
	}
}

// P8.1: what is told of nil.
func TestNil(t *testing.T) {
	var a *agent.Agent
	for _, line := range append([]int{0, 3, 63}, noLines...) {
		for _, word := range append([]int{0, 7}, noWords...) {
			checkLoad(t, a, "nil", line, word, 0, false)
			checkStore(t, a, "nil", line, word, 5, false)
		}
		checkReach(t, a, "nil", line)
		checkEvict(t, a, "nil", line, api.ErrArg)
		if a.Owns(line) {
			t.Errorf("nil owns line %d", line)
		}
		for kind := -1; kind <= 15; kind++ {
			checkHear(t, a, "nil", told(kind, line), api.ErrArg)
		}
	}
	checkSlots(t, a, "nil")
	if !a.Idle() {
		t.Error("nil is not idle")
	}
}

// P8.1: Idle and Owns in each state, beside lines in other states; of lines that are not there, or are none, nothing is owned.
func TestIdleAndOwns(t *testing.T) {
	for state := api.Inv; state <= api.Dirty; state++ {
		for other := api.Inv; other <= api.Mod; other++ {
			a := newAgent(t, 1, 2)
			bring(t, a, 3, other)
			bring(t, a, 4, state)
			if got, want := a.Idle(), state == api.Inv || isRest(state); got != want {
				t.Errorf("states %d, %d: idle %v", other, state, got)
			}
			for line, state := range map[int]int{3: other, 4: state} {
				if got, want := a.Owns(line), state == api.Exc || state == api.Mod; got != want {
					t.Errorf("state %d: owned %v", state, got)
				}
			}
			for _, line := range append([]int{0, 1, 2, 5, 63}, noLines...) {
				if a.Owns(line) {
					t.Errorf("states %d, %d: line %d is owned", other, state, line)
				}
			}
		}
	}
}

// P8.1: Slots tells each line's slot whole, set by set; what is told is new memory, its spare room too.
func TestSlots(t *testing.T) {
	a := newAgent(t, 2, 2)
	bring(t, a, 5, api.Mod)   // 1, 2, 3
	bring(t, a, 4, api.Shd)   // 4, 5
	bring(t, a, 7, api.Dirty) // 6, 7, 8, 9
	want := []array.Slot{
		{State: api.Shd, Line: 4, Data: given(4), Used: 5},
		{State: api.Mod, Line: 5, Data: written(5), Used: 3},
		{State: api.Dirty, Line: 7, Data: written(7), Used: 9},
	}
	checkSlots(t, a, "brought", want...)
	one, two := a.Slots(), a.Slots()
	one = one[:cap(one)]
	for i := range one {
		one[i] = array.Slot{State: 1, Line: 99}
	}
	checkSlots(t, a, "behind a changed answer", want...)
	if !slices.Equal(two, want) || slices.Contains(two[:cap(two)], array.Slot{State: 1, Line: 99}) {
		t.Errorf("two answers share memory: %+v", two)
	}
}

// P8.2: a Load by the state of its line, whichever word.
func TestLoadEachState(t *testing.T) {
	for state := api.Inv; state <= api.Dirty; state++ {
		for word := range api.Words {
			a := in(t, state)
			was, used := slot(a, 3), numbered(a)
			switch state {
			case api.Inv:
				checkLoad(t, a, "not there", 3, word, 0, false, ask(api.GetS, 3))
				was = array.Slot{State: api.ToS, Line: 3, Used: used + 1}
			case api.Shd, api.Exc, api.Mod, api.Up:
				checkLoad(t, a, "there", 3, word, wordsIn(state, 3)[word], true)
				was.Used = used + 1
			default:
				checkLoad(t, a, "on its way", 3, word, 0, false)
			}
			checkSlots(t, a, "loaded", was)
		}
	}
}

// P8.2: a Store by the state of its line, whichever word.
func TestStoreEachState(t *testing.T) {
	for state := api.Inv; state <= api.Dirty; state++ {
		for word := range api.Words {
			a := in(t, state)
			was, used := slot(a, 3), numbered(a)
			switch state {
			case api.Inv:
				checkStore(t, a, "not there", 3, word, 9, false, ask(api.GetM, 3))
				was = array.Slot{State: api.ToM, Line: 3, Used: used + 1}
			case api.Shd:
				checkStore(t, a, "shared", 3, word, 9, false, ask(api.GetM, 3))
				was.State, was.Used = api.Up, used+1
			case api.Exc, api.Mod:
				checkStore(t, a, "owned", 3, word, 9, true)
				was.State, was.Used = api.Mod, used+1
				was.Data[word] = 9
			default:
				checkStore(t, a, "on its way", 3, word, 9, false)
			}
			checkSlots(t, a, "stored", was)
		}
	}
}

// P8.2: Reach asks what Store would, by the state of its line; of an owned line nothing changes, its number neither.
func TestReachEachState(t *testing.T) {
	for state := api.Inv; state <= api.Dirty; state++ {
		a := in(t, state)
		was, used := a.Slots(), numbered(a)
		switch state {
		case api.Inv:
			checkReach(t, a, "not there", 3, ask(api.GetM, 3))
			was = []array.Slot{{State: api.ToM, Line: 3, Used: used + 1}}
		case api.Shd:
			checkReach(t, a, "shared", 3, ask(api.GetM, 3))
			was[0].State, was[0].Used = api.Up, used+1
		default:
			checkReach(t, a, "owned, or on its way", 3)
		}
		checkSlots(t, a, "reached", was...)
	}
}

// P8.2: with a line on its way the agent asks for nothing more; what is there is read and written still.
func TestOneAtATime(t *testing.T) {
	for state := api.ToS; state <= api.Dirty; state++ {
		for other := api.Inv; other <= api.Mod; other++ {
			a := newAgent(t, 2, 2)
			bring(t, a, 4, other)
			bring(t, a, 3, state)
			was := a.Slots()
			for _, line := range []int{1, 2, 5, 63} { // of both sets
				checkLoad(t, a, "not there", line, 0, 0, false)
				checkStore(t, a, "not there", line, 0, 5, false)
				checkReach(t, a, "not there", line)
			}
			checkReach(t, a, "at rest or not there", 4)
			if other == api.Inv || other == api.Shd {
				checkStore(t, a, "not owned", 4, 1, 5, false)
			}
			if other == api.Inv {
				checkLoad(t, a, "not there", 4, 2, 0, false)
			}
			checkSlots(t, a, "asked in vain", was...)
			if other != api.Inv {
				checkLoad(t, a, "at rest", 4, 2, wordsIn(other, 4)[2], true)
			}
			if other == api.Exc || other == api.Mod {
				checkStore(t, a, "owned", 4, 1, 5, true)
				checkLoad(t, a, "written", 4, 1, 5, true)
			}
		}
	}
}

// P8.2: lines and words that there are not are no hit, nothing is asked of them, and nothing changes; whatever else is there.
func TestWrongLinesAndWords(t *testing.T) {
	for state := api.Inv; state <= api.Mod; state++ {
		for _, ways := range []int{1, 2} { // a full set, and one with room
			a := newAgent(t, 1, ways)
			bring(t, a, 3, state)
			was := a.Slots()
			for _, line := range noLines {
				for _, word := range append([]int{0, 2, 7}, noWords...) {
					checkLoad(t, a, "no line", line, word, 0, false)
					checkStore(t, a, "no line", line, word, 5, false)
				}
				checkReach(t, a, "no line", line)
			}
			for _, word := range noWords {
				for _, line := range []int{0, 3, 4, 63} {
					checkLoad(t, a, "no word", line, word, 0, false)
					checkStore(t, a, "no word", line, word, 5, false)
				}
			}
			checkSlots(t, a, "asked wrong", was...)
		}
	}
}

// P8.2: every line and word that there is may be had, be written and be read.
func TestEveryLineAndWord(t *testing.T) {
	a := newAgent(t, 8, 8)
	for line := range api.MaxLines {
		checkStore(t, a, "not there", line, line%8, 5, false, ask(api.GetM, line))
		hear(t, a, told(api.DataM, line))
		want := given(line)
		for word := range api.Words {
			checkLoad(t, a, "told", line, word, want[word], true)
			want[word] = math.MaxUint64 - uint64(8*line+word)
			checkStore(t, a, "told", line, word, want[word], true)
			checkSlot(t, a, "written", line, api.Mod, want)
		}
	}
	for line := range api.MaxLines {
		for word := range api.Words {
			checkLoad(t, a, "in the end", line, word, math.MaxUint64-uint64(8*line+word), true)
		}
	}
}
