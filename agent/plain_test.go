package agent_test

import (
	"math"
	"slices"
	"testing"

	"bellows/agent"
	"bellows/api"
	"bellows/array"
)

// wrote is what in writes into word 2 of a line, where it has been written.
const wrote = 77

// noLines and noWords are none; some come to good ones where bits are lost.
var (
	noLines = []int{math.MinInt, math.MinInt + 3, -1 << 32, -1<<32 + 3, -61, -3, -1, 64, 65, 67, 128, 256, 259, 1 << 32, 1<<32 + 3, math.MaxInt}
	noWords = []int{math.MinInt, math.MinInt + 2, -1 << 32, -256, -8, -6, -1, 8, 9, 10, 64, 256, 258, 1 << 32, 1<<32 + 2, math.MaxInt}
)

// told is what a core may be told of the line, of that kind; its words hang on the line, and none is 0.
func told(kind, line int) api.Msg {
	m := api.Msg{Kind: kind, Line: line}
	if kind == api.DataS || kind == api.DataE || kind == api.DataM {
		for w := range m.Data {
			m.Data[w] = uint64(line+1)<<32 + uint64(w) + 1
		}
	}
	return m
}

// given are the words that told gives.
func given(line int) api.Line {
	return told(api.DataS, line).Data
}

// written are these when in has written word 2.
func written(line int) api.Line {
	l := given(line)
	l[2] = wrote
	return l
}

// wordsIn are the words of a line that in has brought to that state.
func wordsIn(state, line int) api.Line {
	switch state {
	case api.ToS, api.ToM, api.Gone:
		return api.Line{}
	case api.Mod, api.Dirty:
		return written(line)
	}
	return given(line)
}

func msgs(l ...api.Msg) []api.Msg { return l }

func ask(kind, line int) api.Msg { return api.Msg{Kind: kind, Line: line} }

// askWords is a message that has words that were written.
func askWords(kind, line int, words api.Line) api.Msg {
	return api.Msg{Kind: kind, Line: line, Dirty: true, Data: words}
}

func newAgent(t *testing.T, sets, ways int) *agent.Agent {
	t.Helper()
	a, e := agent.New(sets, ways)
	if a == nil || e != api.OK {
		t.Fatalf("New(%d, %d): %v, %d; want an agent", sets, ways, a, e)
	}
	return a
}

// hear lets a hear what fits, whatever it answers.
func hear(t *testing.T, a *agent.Agent, m api.Msg) {
	t.Helper()
	if _, e := a.Hear(m); e != api.OK {
		t.Fatalf("Hear(%+v): %d", m, e)
	}
}

// bring brings a line of an idle agent that is not there to that state; each thing that changes a slot gives one number.
func bring(t *testing.T, a *agent.Agent, line, state int) {
	t.Helper()
	switch state {
	case api.ToS:
		a.Load(line, 0)
	case api.ToM:
		a.Store(line, 0, wrote)
	case api.Shd:
		a.Load(line, 0)
		hear(t, a, told(api.DataS, line))
	case api.Exc:
		a.Load(line, 0)
		hear(t, a, told(api.DataE, line))
	case api.Mod:
		bring(t, a, line, api.Exc)
		a.Store(line, 2, wrote)
	case api.Up:
		bring(t, a, line, api.Shd)
		a.Store(line, 0, wrote)
	case api.Out:
		bring(t, a, line, api.Exc)
		a.Evict(line)
	case api.Dirty:
		bring(t, a, line, api.Mod)
		a.Evict(line)
	case api.Gone:
		bring(t, a, line, api.Out)
		hear(t, a, told(api.Invl, line))
	}
	if got := slot(a, line); got.State != state {
		t.Fatalf("line %d is %d; want %d", line, got.State, state)
	}
}

// in is an agent of one set of two ways, whose line 3 has that state (or is not there).
func in(t *testing.T, state int) *agent.Agent {
	t.Helper()
	a := newAgent(t, 1, 2)
	bring(t, a, 3, state)
	checkSlot(t, a, "brought", 3, state, wordsIn(state, 3))
	return a
}

// slot is the line's slot; zero, if it has none.
func slot(a *agent.Agent, line int) array.Slot {
	for _, s := range a.Slots() {
		if s.Line == line {
			return s
		}
	}
	return array.Slot{}
}

// numbered tells the greatest number that was given and is still there.
func numbered(a *agent.Agent) int {
	used := 0
	for _, s := range a.Slots() {
		used = max(used, s.Used)
	}
	return used
}

func isRest(state int) bool {
	return state == api.Shd || state == api.Exc || state == api.Mod
}

// checkSlot holds the line's slot against that state (Inv: none) and these words.
func checkSlot(t *testing.T, a *agent.Agent, what string, line, state int, words api.Line) {
	t.Helper()
	got := slot(a, line)
	if state == api.Inv && got != (array.Slot{}) {
		t.Errorf("%s: line %d is there: %+v", what, line, got)
	}
	if state != api.Inv && (got.State != state || got.Data != words) {
		t.Errorf("%s: line %d: %+v; want state %d, words %v", what, line, got, state, words)
	}
}

func checkSlots(t *testing.T, a *agent.Agent, what string, want ...array.Slot) {
	t.Helper()
	if got := a.Slots(); !slices.Equal(got, want) {
		t.Errorf("%s: Slots %+v; want %+v", what, got, want)
	}
}

func checkLoad(t *testing.T, a *agent.Agent, what string, line, word int, want uint64, hit bool, asks ...api.Msg) {
	t.Helper()
	if v, got, l := a.Load(line, word); v != want || got != hit || !slices.Equal(l, asks) {
		t.Errorf("%s: Load(%d, %d): %d, %v, %+v; want %d, %v, %+v", what, line, word, v, got, l, want, hit, asks)
	}
}

func checkStore(t *testing.T, a *agent.Agent, what string, line, word int, v uint64, hit bool, asks ...api.Msg) {
	t.Helper()
	if got, l := a.Store(line, word, v); got != hit || !slices.Equal(l, asks) {
		t.Errorf("%s: Store(%d, %d, %d): %v, %+v; want %v, %+v", what, line, word, v, got, l, hit, asks)
	}
}

func checkReach(t *testing.T, a *agent.Agent, what string, line int, asks ...api.Msg) {
	t.Helper()
	if l := a.Reach(line); !slices.Equal(l, asks) {
		t.Errorf("%s: Reach(%d): %+v; want %+v", what, line, l, asks)
	}
}

func checkHear(t *testing.T, a *agent.Agent, what string, m api.Msg, want api.Errno, answers ...api.Msg) {
	t.Helper()
	if l, e := a.Hear(m); e != want || !slices.Equal(l, answers) {
		t.Errorf("%s: Hear(%+v): %+v, %d; want %+v, %d", what, m, l, e, answers, want)
	}
}

func checkEvict(t *testing.T, a *agent.Agent, what string, line int, want api.Errno, asks ...api.Msg) {
	t.Helper()
	if l, e := a.Evict(line); e != want || !slices.Equal(l, asks) {
		t.Errorf("%s: Evict(%d): %+v, %d; want %+v, %d", what, line, l, e, asks, want)
	}
}
