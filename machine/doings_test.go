package machine

import (
	"slices"
	"testing"

	"bellows/api"
)

// Ways: what an act does stands in an array of method expressions, one of each kind that there is; Do does what it has.
func TestDoings(t *testing.T) {
	var does [11]doing = doings()
	if does[0] != nil {
		t.Error("kind 0 does something")
	}
	for kind := api.ActExec; kind <= api.ActFail; kind++ {
		if does[kind] == nil {
			t.Errorf("kind %d does nothing", kind)
			continue
		}
		one, two := ready(t, kind), ready(t, kind)
		a := api.Act{Kind: kind, Line: 1}
		got, want := one.Do(a), does[kind](two, a)
		if !slices.Equal(got, want) || !alike(one, two) {
			t.Errorf("kind %d: %+v; the array does %+v", kind, got, want)
		}
		if alike(one, ready(t, kind)) {
			t.Errorf("kind %d: nothing was done", kind)
		}
	}
}

// Ways: each call makes the array anew, so that none changes another one's.
func TestDoingsAreNew(t *testing.T) {
	does := doings()
	clear(does[:])
	for kind, does := range doings() {
		if (does == nil) != (kind == 0) {
			t.Errorf("kind %d: nothing: %v", kind, does == nil)
		}
	}
}

// ready is a machine in which an act of that kind, of core 0 or line 1, does something.
func ready(t *testing.T, kind int) *Machine {
	t.Helper()
	c := api.Config{Cores: 1, Lines: 2, Volatile: 1, Sets: 1, Ways: 1, Queue: 1, Store: 2}
	m, e := New(c, nil, [][]uint64{{api.Li | 1<<8 | 64<<32, api.St | 1<<8 | 1<<12, api.Clwb | 1<<12, api.Tell}}, nil)
	if e != api.OK {
		t.Fatalf("New: %d", e)
	}
	s := m.system
	fetch := func() { s.Store(0, 1, 0, 7); s.Up(0); s.Hear(0); s.Store(0, 1, 0, 7) }
	clean := func() { s.Flush(0, 1, api.Clean); s.Up(0) }
	switch kind {
	case api.ActDrain:
		m.cores[0].Exec(s)
		m.cores[0].Exec(s)
	case api.ActUp:
		s.Load(0, 1, 0)
	case api.ActDn:
		s.Load(0, 1, 0)
		s.Up(0)
	case api.ActAns:
		fetch()
		clean()
		s.Hear(0)
	case api.ActPush:
		clean()
	case api.ActEvict:
		fetch()
	case api.ActDrop, api.ActMem:
		fetch()
		s.Evict(0, 1)
		s.Up(0)
		s.Hear(0)
	}
	if kind == api.ActMem {
		s.Drop(1)
	}
	return m
}

// alike tells whether two machines of ready tell the same.
func alike(a, b *Machine) bool {
	x, y := a.cores[0], b.cores[0]
	up, answers, down := a.system.Queues(0)
	up2, answers2, down2 := b.system.Queues(0)
	return a.fails == b.fails && x.Place() == y.Place() && x.Regs() == y.Regs() && slices.Equal(x.Buffer(), y.Buffer()) &&
		slices.Equal(up, up2) && slices.Equal(answers, answers2) && slices.Equal(down, down2) && slices.Equal(a.system.Slots(0), b.system.Slots(0)) &&
		a.system.Entry(1) == b.system.Entry(1) && slices.Equal(a.system.Waiting(), b.system.Waiting())
}
