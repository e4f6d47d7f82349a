package agent_test

import (
	"testing"

	"bellows/agent"
	"bellows/api"
	"bellows/array"
)

// heard is what a message does to line 3 in some state.
type heard struct {
	next    int
	words   api.Line
	answers []api.Msg
}

// downAck is DnAck with Kept, with words or without.
func downAck(words ...api.Line) api.Msg {
	m := api.Msg{Kind: api.DnAck, Line: 3, Kept: true}
	if len(words) > 0 {
		m.Dirty, m.Data = true, words[0]
	}
	return m
}

// fits is all that fits, by kind and state, as P8.3 tells it.
var fits = map[[2]int]heard{
	{api.DataS, api.ToS}: {api.Shd, given(3), nil},
	{api.DataE, api.ToS}: {api.Exc, given(3), nil},
	{api.DataM, api.ToM}: {api.Exc, given(3), nil},
	{api.DataM, api.Up}:  {api.Exc, given(3), nil},

	{api.PutAck, api.Out}:   {},
	{api.PutAck, api.Dirty}: {},
	{api.PutAck, api.Gone}:  {},

	{api.Invl, api.Shd}:   {answers: msgs(ask(api.InvAck, 3))},
	{api.Invl, api.Exc}:   {answers: msgs(ask(api.InvAck, 3))},
	{api.Invl, api.Mod}:   {answers: msgs(askWords(api.InvAck, 3, written(3)))},
	{api.Invl, api.Up}:    {next: api.ToM, answers: msgs(ask(api.InvAck, 3))},
	{api.Invl, api.Out}:   {next: api.Gone, answers: msgs(ask(api.InvAck, 3))},
	{api.Invl, api.Dirty}: {next: api.Gone, answers: msgs(askWords(api.InvAck, 3, written(3)))},

	{api.Down, api.Exc}:   {api.Shd, given(3), msgs(downAck())},
	{api.Down, api.Mod}:   {api.Shd, written(3), msgs(downAck(written(3)))},
	{api.Down, api.Out}:   {next: api.Gone, answers: msgs(ask(api.DnAck, 3))},
	{api.Down, api.Dirty}: {next: api.Gone, answers: msgs(askWords(api.DnAck, 3, written(3)))},
}

// P8.3: each message in each state: what becomes of the slot, its number with it, and what is answered; where it does not fit, ErrState, and nothing changes.
func TestHearEachState(t *testing.T) {
	for kind := api.DataS; kind <= api.Done; kind++ {
		for state := api.Inv; state <= api.Dirty; state++ {
			a := in(t, state)
			was, used := a.Slots(), numbered(a)
			h, ok := fits[[2]int{kind, state}]
			switch {
			case kind == api.Done:
				checkHear(t, a, "done", told(kind, 3), api.OK)
			case !ok:
				checkHear(t, a, "does not fit", told(kind, 3), api.ErrState)
			default:
				checkHear(t, a, "fits", told(kind, 3), api.OK, h.answers...)
				was = []array.Slot{{State: h.next, Line: 3, Data: h.words, Used: used + 1}}
			}
			if ok && h.next == api.Inv {
				was = nil
			}
			checkSlots(t, a, "heard", was...)
		}
	}
}

// P8.3: words that are all 0 are words too: they are what the line has, and are told as written ones.
func TestHearZeroWords(t *testing.T) {
	for _, kind := range []int{api.DataS, api.DataE, api.DataM} {
		a := newAgent(t, 1, 1)
		if kind == api.DataM {
			bring(t, a, 3, api.Up)
		} else {
			bring(t, a, 3, api.ToS)
		}
		checkHear(t, a, "zeros", ask(kind, 3), api.OK)
		if got := slot(a, 3); got.Data != (api.Line{}) || !isRest(got.State) {
			t.Errorf("kind %d: %+v; want zeros", kind, got)
		}
	}
	zeros := func() *agent.Agent {
		a := newAgent(t, 1, 1)
		a.Reach(3)
		checkHear(t, a, "zeros", ask(api.DataM, 3), api.OK)
		checkStore(t, a, "zeros", 3, 1, 0, true)
		checkSlot(t, a, "zeros", 3, api.Mod, api.Line{})
		return a
	}
	checkHear(t, zeros(), "zeros", told(api.Invl, 3), api.OK, askWords(api.InvAck, 3, api.Line{}))
	checkHear(t, zeros(), "zeros", told(api.Down, 3), api.OK, downAck(api.Line{}))
	checkEvict(t, zeros(), "zeros", 3, api.OK, askWords(api.Put, 3, api.Line{}))
}

// P8.3: once its words were told, a line is read as before, and asked for again to be written; then they are not told again.
func TestDownOfWritten(t *testing.T) {
	a := in(t, api.Mod)
	hear(t, a, told(api.Down, 3))
	checkLoad(t, a, "down", 3, 2, wrote, true)
	checkHear(t, a, "down already", told(api.Down, 3), api.ErrState)
	checkStore(t, a, "down", 3, 2, 5, false, ask(api.GetM, 3))
	checkHear(t, a, "asked for", told(api.Invl, 3), api.OK, ask(api.InvAck, 3))
	checkSlot(t, a, "lost on the way", 3, api.ToM, api.Line{})
	checkLoad(t, a, "lost on the way", 3, 2, 0, false)
	checkHear(t, a, "lost on the way", told(api.Invl, 3), api.ErrState)
	checkHear(t, a, "lost on the way", told(api.DataM, 3), api.OK)
	checkSlot(t, a, "told", 3, api.Exc, given(3))
}

// P8.3: a line on its way out that was asked back waits for its PutAck, and is told no second time; till then nothing else is asked for.
func TestGone(t *testing.T) {
	for _, state := range []int{api.Shd, api.Exc, api.Mod} {
		for _, kind := range []int{api.Invl, api.Down} {
			a := in(t, state)
			a.Evict(3)
			hear(t, a, told(kind, 3))
			checkSlot(t, a, "gone", 3, api.Gone, api.Line{})
			checkHear(t, a, "gone", told(api.Invl, 3), api.ErrState)
			checkHear(t, a, "gone", told(api.Down, 3), api.ErrState)
			checkLoad(t, a, "gone", 3, 2, 0, false)
			checkStore(t, a, "gone", 3, 2, 5, false)
			checkLoad(t, a, "gone", 4, 2, 0, false)
			checkHear(t, a, "gone", told(api.PutAck, 3), api.OK)
			checkSlots(t, a, "put out")
			checkLoad(t, a, "put out", 3, 2, 0, false, ask(api.GetS, 3))
		}
	}
}

// P8.3: what is no message, or none that a core is told, is ErrArg in each state, and changes nothing.
func TestHearWrong(t *testing.T) {
	x := given(3)
	wrong := []api.Msg{{}, {Kind: -1, Line: 3}, {Kind: 15, Line: 3}, {Kind: 256 + api.Done, Line: 3}, {Kind: 1<<32 + api.Invl, Line: 3}}
	for kind := api.GetS; kind <= api.DnAck; kind++ {
		wrong = append(wrong, ask(kind, 3), askWords(kind, 3, x))
	}
	wrong = append(wrong, downAck(), downAck(x))
	for kind := api.DataS; kind <= api.Done; kind++ {
		wrong = append(wrong, api.Msg{Kind: kind, Line: 3, Dirty: true}, api.Msg{Kind: kind, Line: 3, Kept: true}, askWords(kind, 3, x))
		if kind > api.DataM {
			wrong = append(wrong, api.Msg{Kind: kind, Line: 3, Data: x})
		}
		for _, line := range noLines {
			wrong = append(wrong, ask(kind, line))
		}
	}
	for state := api.Inv; state <= api.Dirty; state++ {
		a := in(t, state)
		was := a.Slots()
		for _, m := range wrong {
			checkHear(t, a, "wrong", m, api.ErrArg)
		}
		checkSlots(t, a, "wrong", was...)
	}
}

// P8.3: what is told of a line that is not there does not fit, but Done, whatever lines there are; what is told of one line leaves the others as they are.
func TestHearOfOtherLines(t *testing.T) {
	for state := api.Inv; state <= api.Dirty; state++ {
		a := newAgent(t, 1, 3)
		bring(t, a, 4, api.Mod)
		bring(t, a, 3, state)
		was := a.Slots()
		for _, line := range []int{0, 2, 5, 11, 63} {
			for kind := api.DataS; kind <= api.Down; kind++ {
				checkHear(t, a, "not there", told(kind, line), api.ErrState)
			}
			checkHear(t, a, "not there", told(api.Done, line), api.OK)
		}
		checkSlots(t, a, "heard of others", was...)
		four := slot(a, 4)
		for kind := api.DataS; kind <= api.Done; kind++ {
			a.Hear(told(kind, 3))
			if slot(a, 4) != four {
				t.Errorf("state %d, kind %d of line 3: line 4 is %+v", state, kind, slot(a, 4))
			}
		}
	}
}

// What is asked and answered is new memory.
func TestAnswersAreNew(t *testing.T) {
	spoil := func(l []api.Msg) {
		for i := range l[:cap(l)] {
			l[:cap(l)][i] = api.Msg{Kind: 99}
		}
	}
	for range 2 {
		a := newAgent(t, 1, 1)
		_, _, l := a.Load(3, 0)
		spoil(l)
		hear(t, a, told(api.DataE, 3))
		a.Store(3, 2, wrote)
		answers, _ := a.Hear(told(api.Down, 3))
		spoil(answers)
		checkSlot(t, a, "spoilt", 3, api.Shd, written(3))
		checkEvict(t, a, "spoilt", 3, api.OK, ask(api.Put, 3))
	}
}
