package agent_test

import (
	"slices"
	"testing"

	"bellows/agent"
	"bellows/api"
)

// wants are the ways to want a line that is not there, and what is asked for it.
var wants = []struct {
	kind, state int
	want        func(a *agent.Agent, line int) []api.Msg
}{
	{api.GetS, api.ToS, func(a *agent.Agent, line int) []api.Msg { _, _, l := a.Load(line, 1); return l }},
	{api.GetM, api.ToM, func(a *agent.Agent, line int) []api.Msg { _, l := a.Store(line, 1, 5); return l }},
	{api.GetM, api.ToM, func(a *agent.Agent, line int) []api.Msg { return a.Reach(line) }},
}

// P8.2: in a full set room is made first: of a victim in each state a Put is asked, and nothing else till that is answered; then the line is asked for.
func TestMakeRoom(t *testing.T) {
	for i, w := range wants {
		for state := api.Shd; state <= api.Mod; state++ {
			a := newAgent(t, 1, 1)
			bring(t, a, 3, state)
			put, next := ask(api.Put, 3), api.Out
			if state == api.Mod {
				put, next = askWords(api.Put, 3, written(3)), api.Dirty
			}
			if got := w.want(a, 4); !slices.Equal(got, msgs(put)) {
				t.Errorf("way %d, a victim %d: asked %+v; want %+v", i, state, got, put)
			}
			checkSlot(t, a, "on its way out", 3, next, wordsIn(state, 3))
			checkSlot(t, a, "not asked for yet", 4, api.Inv, api.Line{})
			if got := w.want(a, 4); len(got) != 0 {
				t.Errorf("way %d: asked %+v with a line on its way out", i, got)
			}
			hear(t, a, told(api.PutAck, 3))
			checkSlots(t, a, "put out")
			if got := w.want(a, 4); !slices.Equal(got, msgs(ask(w.kind, 4))) {
				t.Errorf("way %d: asked %+v with room; want kind %d", i, got, w.kind)
			}
			checkSlot(t, a, "asked for", 4, w.state, api.Line{})
		}
	}
}

// P8.2: with a free slot nothing is put out, and a full set beside the line's own is no matter.
func TestRoomIsThere(t *testing.T) {
	for i, w := range wants {
		for _, shape := range [][2]int{{1, 2}, {2, 1}, {4, 2}, {8, 1}} {
			a := newAgent(t, shape[0], shape[1])
			bring(t, a, 3, api.Mod)
			was := slot(a, 3)
			if got := w.want(a, 4); !slices.Equal(got, msgs(ask(w.kind, 4))) {
				t.Errorf("way %d, %v: asked %+v; want kind %d", i, shape, got, w.kind)
			}
			checkSlot(t, a, "asked for", 4, w.state, api.Line{})
			if slot(a, 3) != was {
				t.Errorf("way %d, %v: line 3 is %+v; want %+v", i, shape, slot(a, 3), was)
			}
		}
	}
}

// P8.2: a line that is shared is not put out for its own sake, though its set is full.
func TestUpNeedsNoRoom(t *testing.T) {
	for _, want := range []func(a *agent.Agent) []api.Msg{
		func(a *agent.Agent) []api.Msg { _, l := a.Store(3, 0, 5); return l },
		func(a *agent.Agent) []api.Msg { return a.Reach(3) },
	} {
		a := newAgent(t, 1, 2)
		bring(t, a, 3, api.Shd)
		bring(t, a, 4, api.Mod)
		if got := want(a); !slices.Equal(got, msgs(ask(api.GetM, 3))) {
			t.Errorf("asked %+v; want GetM of 3", got)
		}
		checkSlot(t, a, "asked for", 3, api.Up, given(3))
		checkSlot(t, a, "beside it", 4, api.Mod, written(4))
	}
}

// P8.2: the victim is the line of the set that was used longest ago: by a Load, a Store, or what was told; Reach of an owned line, what misses and Done are no use.
func TestVictim(t *testing.T) {
	for _, c := range []struct {
		name string
		use  func(a *agent.Agent)
		want int
	}{
		{"nothing", func(a *agent.Agent) {}, 1},
		{"Load of 1", func(a *agent.Agent) { a.Load(1, 7) }, 3},
		{"Store into 1", func(a *agent.Agent) { a.Store(1, 7, 4) }, 3},
		{"Store of what is there", func(a *agent.Agent) { a.Store(1, 2, wrote) }, 3},
		{"Load of 1 and 3", func(a *agent.Agent) { a.Load(1, 7); a.Load(3, 7) }, 5},
		{"Load of 3 and 1", func(a *agent.Agent) { a.Load(3, 7); a.Load(1, 7) }, 5},
		{"Load of all, 3 first", func(a *agent.Agent) { a.Load(3, 7); a.Load(5, 7); a.Load(1, 7) }, 3},
		{"Down of 1", func(a *agent.Agent) { a.Hear(told(api.Down, 1)) }, 3},
		{"Reach of 1", func(a *agent.Agent) { a.Reach(1) }, 1},
		{"Done of 1", func(a *agent.Agent) { a.Hear(told(api.Done, 1)) }, 1},
		{"what does not fit", func(a *agent.Agent) { a.Hear(told(api.DataS, 1)) }, 1},
		{"no word", func(a *agent.Agent) { a.Load(1, 8); a.Store(1, -1, 4) }, 1},
		{"Owns of 1", func(a *agent.Agent) { a.Owns(1) }, 1},
		{"the other set", func(a *agent.Agent) { a.Load(2, 0) }, 1},
	} {
		for i, w := range wants {
			a := newAgent(t, 2, 3)
			bring(t, a, 2, api.Shd) // the eldest of all, in the other set
			bring(t, a, 1, api.Mod)
			bring(t, a, 3, api.Mod)
			bring(t, a, 5, api.Mod)
			c.use(a)
			got := w.want(a, 7)
			if len(got) != 1 || got[0].Kind != api.Put || got[0].Line != c.want {
				t.Errorf("%s, way %d: asked %+v; want a Put of %d", c.name, i, got, c.want)
			}
		}
	}
}

// P8.4: a line at rest is put out; what is not there can't be.
func TestEvictEachState(t *testing.T) {
	for state := api.Inv; state <= api.Dirty; state++ {
		a := in(t, state)
		was, used := a.Slots(), numbered(a)
		switch state {
		case api.Inv:
			checkEvict(t, a, "not there", 3, api.ErrNone)
		case api.Shd, api.Exc:
			checkEvict(t, a, "as it came", 3, api.OK, ask(api.Put, 3))
			was[0].State, was[0].Used = api.Out, used+1
		case api.Mod:
			checkEvict(t, a, "written", 3, api.OK, askWords(api.Put, 3, written(3)))
			was[0].State, was[0].Used = api.Dirty, used+1
		default:
			checkEvict(t, a, "on its way", 3, api.ErrBusy)
		}
		checkSlots(t, a, "evicted", was...)
	}
}

// P8.4: with a line on its way nothing is put out, whatever else is there; ErrBusy is told ahead of ErrNone.
func TestEvictBusy(t *testing.T) {
	for state := api.ToS; state <= api.Dirty; state++ {
		for other := api.Inv; other <= api.Mod; other++ {
			a := newAgent(t, 2, 1)
			bring(t, a, 4, other)
			bring(t, a, 3, state)
			was := a.Slots()
			for _, line := range append([]int{0, 3, 4, 5, 63}, noLines...) {
				checkEvict(t, a, "busy", line, api.ErrBusy)
			}
			checkSlots(t, a, "evicted in vain", was...)
		}
	}
}

// P8.4: of an idle agent no line that is not there is put out, and none that there is not.
func TestEvictNone(t *testing.T) {
	for state := api.Inv; state <= api.Mod; state++ {
		a := in(t, state)
		was := a.Slots()
		for _, line := range append([]int{0, 1, 2, 4, 11, 63}, noLines...) {
			checkEvict(t, a, "none", line, api.ErrNone)
		}
		checkSlots(t, a, "evicted in vain", was...)
	}
}

// P8.4: only the line that is named goes, however long ago the others were used.
func TestEvictNamed(t *testing.T) {
	a := newAgent(t, 1, 3)
	for line := 4; line <= 6; line++ {
		bring(t, a, line, api.Mod)
	}
	four, six := slot(a, 4), slot(a, 6)
	checkEvict(t, a, "full", 5, api.OK, askWords(api.Put, 5, written(5)))
	if slot(a, 4) != four || slot(a, 6) != six {
		t.Errorf("other lines changed: %+v", a.Slots())
	}
	hear(t, a, told(api.PutAck, 5))
	checkSlots(t, a, "put out", four, six)
}
