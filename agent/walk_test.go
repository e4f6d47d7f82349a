package agent_test

import (
	"slices"
	"testing"

	"bellows/agent"
	"bellows/api"
	"bellows/array"
)

// dice are numbers that come one behind the other, always the same.
type dice uint64

func (d *dice) roll(sides int) int {
	*d = *d*6364136223846793005 + 1442695040888963407
	return int(*d >> 33 % dice(sides))
}

// plain is an agent in the plainest form: the array's calls as the chapter's words say them.
type plain struct {
	array *array.Array
}

func (p *plain) idle() bool {
	for _, s := range p.array.Slots() {
		if s.State > api.Mod {
			return false
		}
	}
	return true
}

func (p *plain) load(line, word int) (uint64, bool, []api.Msg) {
	s, _ := p.array.Find(line)
	switch s.State {
	case api.Shd, api.Exc, api.Mod, api.Up:
		p.array.Touch(line)
		return s.Data[word], true, nil
	case api.Inv:
		return 0, false, p.want(line, api.ToS, api.GetS)
	}
	return 0, false, nil
}

func (p *plain) store(line, word int, v uint64, write bool) (bool, []api.Msg) {
	s, _ := p.array.Find(line)
	switch s.State {
	case api.Exc, api.Mod:
		if write {
			s.Data[word] = v
			p.array.Set(line, api.Mod, s.Data)
		}
		return true, nil
	case api.Shd:
		if !p.idle() {
			return false, nil
		}
		p.array.Set(line, api.Up, s.Data)
		return false, msgs(ask(api.GetM, line))
	case api.Inv:
		return false, p.want(line, api.ToM, api.GetM)
	}
	return false, nil
}

func (p *plain) want(line, state, kind int) []api.Msg {
	if !p.idle() {
		return nil
	}
	if free, victim := p.array.Room(line); !free {
		l, _ := p.evict(victim)
		return l
	}
	p.array.Set(line, state, api.Line{})
	return msgs(ask(kind, line))
}

func (p *plain) evict(line int) ([]api.Msg, api.Errno) {
	if !p.idle() {
		return nil, api.ErrBusy
	}
	s, ok := p.array.Find(line)
	if !ok {
		return nil, api.ErrNone
	}
	if s.State == api.Mod {
		p.array.Set(line, api.Dirty, s.Data)
		return msgs(askWords(api.Put, line, s.Data)), api.OK
	}
	p.array.Set(line, api.Out, s.Data)
	return msgs(ask(api.Put, line)), api.OK
}

func (p *plain) hear(m api.Msg) ([]api.Msg, api.Errno) {
	s, _ := p.array.Find(m.Line)
	answer := api.Msg{Line: m.Line}
	if s.State == api.Mod || s.State == api.Dirty {
		answer.Dirty, answer.Data = true, s.Data
	}
	next := api.Gone
	isFor := func(kind int, states ...int) bool { return m.Kind == kind && slices.Contains(states, s.State) }
	switch {
	case m.Kind == api.Done:
		return nil, api.OK
	case isFor(api.DataS, api.ToS):
		return nil, p.array.Set(m.Line, api.Shd, m.Data)
	case isFor(api.DataE, api.ToS), isFor(api.DataM, api.ToM, api.Up):
		return nil, p.array.Set(m.Line, api.Exc, m.Data)
	case isFor(api.PutAck, api.Out, api.Dirty, api.Gone):
		p.array.Drop(m.Line)
		return nil, api.OK
	case isFor(api.Down, api.Exc, api.Mod):
		answer.Kind, answer.Kept = api.DnAck, true
		return msgs(answer), p.array.Set(m.Line, api.Shd, s.Data)
	case isFor(api.Down, api.Out, api.Dirty):
		answer.Kind = api.DnAck
	case isFor(api.Invl, api.Shd, api.Exc, api.Mod):
		answer.Kind = api.InvAck
		p.array.Drop(m.Line)
		return msgs(answer), api.OK
	case isFor(api.Invl, api.Up):
		answer.Kind, next = api.InvAck, api.ToM
	case isFor(api.Invl, api.Out, api.Dirty):
		answer.Kind = api.InvAck
	default:
		return nil, api.ErrState
	}
	return msgs(answer), p.array.Set(m.Line, next, api.Line{})
}

// walker goes a long way with an agent beside a plain one.
type walker struct {
	t      *testing.T
	d      dice
	a      *agent.Agent
	p      *plain
	lines  int
	words  [api.MaxLines]api.Line // what the line had last
	untold [api.MaxLines]bool     // was it written since it was told?
	hits   int
	met    map[[2]int]int // what fitted: kinds and states
}

// message is one of the line, most often of one that is on its way.
func (w *walker) message(line int) api.Msg {
	if w.d.roll(2) == 0 {
		for _, s := range w.a.Slots() {
			if !isRest(s.State) {
				line = s.Line
			}
		}
	}
	m := told(api.DataS+w.d.roll(7), line)
	if m.Kind <= api.DataM {
		m.Data[w.d.roll(8)] = uint64(w.d.roll(1000))
	}
	return m
}

// step does one thing to both, and holds what they tell against each other.
func (w *walker) step(n uint64) {
	line, word := w.d.roll(w.lines), w.d.roll(8)
	switch kind := w.d.roll(12); kind {
	case 0, 1:
		v, hit, l := w.a.Load(line, word)
		want, wantHit, wants := w.p.load(line, word)
		w.check("Load", line, v == want && hit == wantHit && slices.Equal(l, wants), l)
		if hit && v != w.words[line][word] {
			w.t.Errorf("Load(%d, %d): %d; last was %d", line, word, v, w.words[line][word])
		}
	case 2, 3, 4:
		hit, l := w.a.Store(line, word, n)
		want, wants := w.p.store(line, word, n, true)
		if hit {
			w.words[line][word], w.untold[line] = n, true
			w.hits++
		}
		w.check("Store", line, hit == want && slices.Equal(l, wants), l)
	case 5:
		l := w.a.Reach(line)
		_, wants := w.p.store(line, 0, 0, false)
		w.check("Reach", line, slices.Equal(l, wants), l)
	case 6:
		l, e := w.a.Evict(line)
		wants, want := w.p.evict(line)
		w.check("Evict", line, e == want && slices.Equal(l, wants), l)
	default:
		w.hear(w.message(line))
	}
}

func (w *walker) hear(m api.Msg) {
	was := slot(w.a, m.Line).State
	l, e := w.a.Hear(m)
	wants, want := w.p.hear(m)
	if e == api.OK {
		w.met[[2]int{m.Kind, was}]++
		if m.Kind <= api.DataM {
			w.words[m.Line] = m.Data
		}
	}
	w.check("Hear", m.Line, e == want && slices.Equal(l, wants), l)
}

// check holds that it was right, that the slots are those of the plain agent, and P8.5.
func (w *walker) check(what string, line int, right bool, l []api.Msg) {
	w.t.Helper()
	slots, want := w.a.Slots(), w.p.array.Slots()
	if !right || !slices.Equal(slots, want) {
		w.t.Errorf("%s of line %d: told %+v, slots %+v; want %+v", what, line, l, slots, want)
	}
	for _, m := range l {
		if m.Dirty && m.Data != w.words[m.Line] || w.untold[m.Line] && m.Kind != api.GetM && !m.Dirty {
			w.t.Errorf("%s: told %+v; last was %v", what, m, w.words[m.Line])
		}
		if m.Dirty {
			w.untold[m.Line] = false
		}
	}
	ways := 0
	var of [api.MaxLines]array.Slot
	for _, s := range slots {
		of[s.Line] = s
		if !isRest(s.State) {
			ways++
		}
	}
	if ways > 1 || w.a.Idle() != (ways == 0) {
		w.t.Errorf("%s: %d on their way, idle %v: %+v", what, ways, w.a.Idle(), slots)
	}
	for line := range w.lines {
		s := of[line]
		if w.a.Owns(line) != (s.State == api.Exc || s.State == api.Mod) {
			w.t.Errorf("%s: line %d is owned %v: %+v", what, line, w.a.Owns(line), s)
		}
		if w.untold[line] && (s.State != api.Mod && s.State != api.Dirty || s.Data != w.words[line]) {
			w.t.Errorf("%s: line %d was written and not told: %+v; last was %v", what, line, s, w.words[line])
		}
	}
}

// P8.2 to P8.5: long walks with each shape, beside a plain agent: what is told, each slot and its number; one line on its way; and what was written is there till it is told.
func TestWalks(t *testing.T) {
	met := map[[2]int]int{}
	hits := 0
	for _, sets := range []int{1, 2, 4, 8} {
		for ways := 1; ways <= 8; ways++ {
			p, _ := array.New(sets, ways)
			w := &walker{t: t, d: dice(sets*100 + ways), a: newAgent(t, sets, ways), p: &plain{p}, lines: min(sets*ways+sets+1, api.MaxLines), met: met}
			for n := range uint64(4000) {
				w.step(n + 1)
				if t.Failed() {
					t.Fatalf("%d sets, %d ways, step %d", sets, ways, n)
				}
			}
			hits += w.hits
		}
	}
	for pair := range fits {
		if met[pair] == 0 {
			t.Errorf("kind %d was never heard in state %d", pair[0], pair[1])
		}
	}
	if hits < 1000 {
		t.Errorf("%d stores were hits; want more", hits)
	}
}
