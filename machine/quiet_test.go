package machine_test

import (
	"slices"
	"testing"

	"bellows/api"
	"bellows/machine"
)

func checkQuiet(t *testing.T, m *machine.Machine, what string, want bool) {
	t.Helper()
	if got := m.Quiet(); got != want {
		t.Errorf("%s: quiet: %v", what, got)
	}
}

// resting is a machine in which nobody runs.
func resting(t *testing.T) *machine.Machine {
	t.Helper()
	m := newMachine(t)
	for id := range shape.Cores {
		m.Core(id).Stop()
	}
	checkQuiet(t, m, "nobody runs", true)
	return m
}

// The chapter's example: of one core all twenty acts or so are told here, and only the last one makes it quiet.
func TestExample(t *testing.T) {
	c := shape
	c.Cores = 1
	m := of(t, c, nil, code(t, li(1, 64), on(api.St, 1, 1, 0), on(api.Clwb, 0, 1, 0), plainOp(api.Sfen), halt))
	var got []api.Event
	for _, kind := range []int{
		api.ActExec, api.ActExec, api.ActExec, api.ActDrain, api.ActUp, api.ActDn, api.ActDrain, api.ActDrain, api.ActExec,
		api.ActUp, api.ActDn, api.ActAns, api.ActPush, api.ActExec, api.ActDn, api.ActExec, api.ActExec,
	} {
		checkQuiet(t, m, "under way", false)
		a := api.Act{Kind: kind}
		if kind == api.ActPush {
			a.Line = 1
		}
		got = append(got, m.Do(a)...)
	}
	checkQuiet(t, m, "in the end", true)
	checkEvents(t, "in the end", got,
		api.Event{Kind: api.EvIssue, Line: 1, Val: 64}, api.Event{Kind: api.EvWant, Line: 1}, api.Event{Kind: api.EvStore, Line: 1, Val: 64}, api.Event{Kind: api.EvSend, Line: 1},
		push(1), api.Event{Kind: api.EvFlush, Line: 1}, api.Event{Kind: api.EvFence}, api.Event{Kind: api.EvHalt})
}

// P15.3: as long as a core runs, whichever, it is not quiet; a core that is halted, stopped or trapped runs no more.
func TestQuietOfCores(t *testing.T) {
	for cores := 1; cores <= api.MaxCores; cores++ {
		c := shape
		c.Cores = cores
		m := of(t, c, nil, slices.Repeat([][]uint64{{api.Halt}, {99}, nil}, 3)[:cores]...)
		for n := range cores {
			checkQuiet(t, m, "cores run", false)
			id := (n + cores/2) % cores
			if id == 3 {
				m.Core(id).Stop()
			}
			m.Do(api.Act{Kind: api.ActExec, Core: id})
		}
		checkQuiet(t, m, "no core runs", true)
	}
}

// P15.3: a store buffer that is not empty, though its core runs no more and nothing else is on its way.
func TestQuietOfBuffers(t *testing.T) {
	for id := range shape.Cores {
		for _, i := range []api.Ins{on(api.St, 1, 0, 64), on(api.Clwb, 0, 0, 64), on(api.Flush, 0, 0, 64)} {
			progs := make([][]uint64, 3)
			progs[id] = code(t, i, halt)
			m := of(t, shape, nil, progs...)
			m.Play(slices.Repeat([]api.Act{{Kind: api.ActExec}, {Kind: api.ActExec, Core: 1}, {Kind: api.ActExec, Core: 2}}, 2))
			checkQuiet(t, m, "an entry", false)
			m.Play(slices.Repeat([]api.Act{{Kind: api.ActDrain, Core: id}, {Kind: api.ActUp, Core: id}, at(api.ActPush, 1), {Kind: api.ActDn, Core: id}}, 2))
			if n := len(m.Core(id).Buffer()); n == 1 { // Flush stays till it is answered
				checkQuiet(t, m, "an entry that was sent and answered", false)
				m.Do(api.Act{Kind: api.ActDrain, Core: id})
			}
			checkQuiet(t, m, "drained", true)
		}
	}
}

// P15.3: a flush that the core was not answered, though its answer is on its way no more.
func TestQuietOfWaits(t *testing.T) {
	for id := range shape.Cores {
		progs := make([][]uint64, 3)
		progs[id] = code(t, on(api.Clwb, 0, 0, 64), halt)
		m := of(t, shape, nil, progs...)
		m.Play(slices.Repeat([]api.Act{{Kind: api.ActExec}, {Kind: api.ActExec, Core: 1}, {Kind: api.ActExec, Core: 2}, {Kind: api.ActDrain, Core: id}, {Kind: api.ActUp, Core: id}, at(api.ActPush, 1)}, 2))
		told, e := m.System().Hear(id) // the L1 hears it, and the core does not
		if told != (api.Msg{Kind: api.Done, Line: 1}) || e != api.OK {
			t.Fatalf("heard %+v, %d", told, e)
		}
		checkQuiet(t, m, "not answered", false)
		m.Core(id).Hear(told)
		checkQuiet(t, m, "answered", true)
	}
}

// P15.3: a message in any queue of any core, a line on its way, and an entry that is Busy; each alone, where that may be.
func TestQuietOfMessages(t *testing.T) {
	for id := range shape.Cores {
		other := (id + 1) % 3
		m := resting(t)
		s := m.System()
		step := func(what string, quiet bool, kind, id int) {
			t.Helper()
			m.Do(api.Act{Kind: kind, Core: id, Line: 1})
			checkQuiet(t, m, what, quiet)
		}
		s.Store(id, 1, 0, 7)
		checkQuiet(t, m, "up", false)
		step("down", false, api.ActUp, id)
		step("heard", true, api.ActDn, id)
		s.Store(id, 1, 0, 7)
		checkQuiet(t, m, "a line of its own", true)
		s.Load(other, 1, 0)
		checkQuiet(t, m, "up", false)
		step("down", false, api.ActUp, other)
		step("answers", false, api.ActDn, id)
		step("down", false, api.ActAns, id)
		step("heard", true, api.ActDn, other)
		s.Flush(other, 1, api.Clean) // nobody is asked, so that all queues are empty
		checkQuiet(t, m, "a flush up", false)
		step("Busy", false, api.ActUp, other)
		if up, answers, down := s.Queues(other); len(up)+len(answers)+len(down) != 0 || s.Entry(1).Busy != api.Clean {
			t.Errorf("Busy: %v, %v, %v, %+v", up, answers, down, s.Entry(1))
		}
		step("down", false, api.ActPush, 0)
		step("heard", true, api.ActDn, other)
		step("up", false, api.ActEvict, id)
		step("down", false, api.ActUp, id)
		step("heard", true, api.ActDn, id)
	}
}

// P15.3: each line's entry is asked, the first one and the last one too.
func TestQuietOfEntries(t *testing.T) {
	for _, lines := range []int{2, 4, 9, api.MaxLines} {
		c := shape
		c.Lines = lines
		for line := range lines {
			m := of(t, c, nil)
			for id := range c.Cores {
				m.Core(id).Stop()
			}
			m.System().Flush(2, line, api.Wipe)
			do(t, m, "up", []api.Act{{Kind: api.ActUp, Core: 2}})
			checkQuiet(t, m, "Busy", false)
			do(t, m, "pushed", []api.Act{at(api.ActPush, line), {Kind: api.ActDn, Core: 2}}, push(line))
			checkQuiet(t, m, "pushed", true)
		}
	}
}

// P15.3: the memory's queue is not asked, nor what lies in the L1s and the L2.
func TestQuietOfMemory(t *testing.T) {
	m := written(t, on(api.Clwb, 0, 1, 0), halt)
	m.Core(0).Stop()
	m.Core(2).Stop()
	m.Play(slices.Repeat(append(acts(api.ActExec, api.ActDrain, api.ActUp, api.ActDn, api.ActAns), at(api.ActPush, 1)), 20))
	v := look(m)
	if !slices.Equal(v.waiting, []int{1}) || len(v.cores[1].slots) != 1 || !v.entries[1].Here {
		t.Fatalf("not what was to be asked: %+v", v)
	}
	checkQuiet(t, m, "an entry waits", true)
	m.Do(at(api.ActMem, 1))
	checkQuiet(t, m, "no entry waits", true)
}

// P15.3: behind a failure it is quiet when the recovery has come to its end, and not before.
func TestQuietOfRecovery(t *testing.T) {
	m := of(t, shape, code(t, li(1, 5), halt), []uint64{api.Halt})
	for range 3 {
		m.Do(api.Act{Kind: api.ActFail})
		checkQuiet(t, m, "failed", false)
		m.Do(api.Act{Kind: api.ActExec})
		checkQuiet(t, m, "it recovers", false)
		m.Do(api.Act{Kind: api.ActExec})
		checkQuiet(t, m, "it has recovered", true)
	}
}

// P15.3: to ask changes nothing.
func TestQuietChangesNothing(t *testing.T) {
	m := busy(t)
	was := look(m)
	for range 5 {
		checkQuiet(t, m, "busy", false)
	}
	checkSame(t, m, "asked", was)
}
