package machine_test

import (
	"slices"
	"testing"

	"bellows/api"
	"bellows/array"
	"bellows/dir"
	"bellows/machine"
)

// fetched are the acts that bring a line to core 1, which has asked for it, if nobody else has it.
var fetched = acts(api.ActUp, api.ActDn)

// underWay tells whether there are messages in queues of all three sorts, a flush that is ready, and an entry in the memory's queue.
func underWay(v view) bool {
	var up, answers, down bool
	for _, c := range v.cores {
		up, answers, down = up || len(c.up) > 0, answers || len(c.answers) > 0, down || len(c.down) > 0
	}
	return up && answers && down && len(v.waiting) > 0 && slices.ContainsFunc(v.entries, dir.Ready)
}

// busy is a machine in which all that there may be is under way.
func busy(t *testing.T) *machine.Machine {
	t.Helper()
	prog := code(t, li(1, 64), three(api.Add, 2, 2, 1), on(api.St, 2, 1, 0), on(api.St, 2, 1, 64), on(api.Clwb, 0, 1, 0), on(api.Ld, 3, 1, 128), tell(2), tell(3), on(api.Opt, 0, 1, 64), on(api.Jmp, 0, 0, 1))
	m := of(t, shape, code(t, tell(1)), prog, prog, prog)
	d := dice(5)
	for range 10000 {
		m.Do(d.act(shape, false))
		if underWay(look(m)) {
			return m
		}
	}
	t.Fatal("there was never all under way")
	return nil
}

// P15.2: acts of kinds, cores and lines that there are not change nothing, and tell nothing.
func TestNoActs(t *testing.T) {
	m := busy(t)
	was := look(m)
	refuses := func(a api.Act) {
		t.Helper()
		if l := m.Do(a); len(l) != 0 {
			t.Errorf("%+v: %+v; want nothing", a, l)
		}
		checkSame(t, m, "no act", was)
	}
	for _, kind := range append([]int{0}, far...) {
		refuses(api.Act{Kind: kind})
		refuses(api.Act{Kind: kind, Core: 1, Line: 1})
	}
	for _, n := range append([]int{3, 4, 7, 8, 9, 16, 63}, far...) {
		for _, kind := range []int{api.ActExec, api.ActDrain, api.ActUp, api.ActAns, api.ActDn, api.ActEvict} {
			for line := range shape.Lines {
				refuses(api.Act{Kind: kind, Core: n, Line: line})
			}
		}
		if n == 3 {
			continue // that is a line
		}
		for _, kind := range []int{api.ActPush, api.ActEvict, api.ActDrop, api.ActMem} {
			for id := range shape.Cores {
				refuses(api.Act{Kind: kind, Core: id, Line: n})
			}
		}
	}
}

// P15.2: of what a kind does not have nothing is looked at.
func TestActsLookAtNoMore(t *testing.T) {
	d := dice(11)
	one, two := busy(t), busy(t)
	for n := range 3000 {
		a := d.act(shape, true)
		b := a
		switch a.Kind {
		case api.ActExec, api.ActDrain, api.ActUp, api.ActAns, api.ActDn:
			b.Line = far[n%len(far)]
		case api.ActPush, api.ActDrop, api.ActMem:
			b.Core = far[n%len(far)]
		case api.ActFail:
			b.Core, b.Line = far[n%len(far)], far[n/3%len(far)]
		}
		if got, want := one.Do(b), two.Do(a); !slices.Equal(got, want) {
			t.Fatalf("%+v: %+v; want %+v", b, got, want)
		}
		checkSame(t, one, "what a kind does not have", look(two))
	}
}

// P15.2: each act where there is nothing to do changes nothing, but those that execute and that fail.
func TestActsOfNothing(t *testing.T) {
	m := newMachine(t, tell(0))
	was := look(m)
	for id := range shape.Cores {
		for line := range shape.Lines {
			for _, kind := range []int{api.ActDrain, api.ActUp, api.ActAns, api.ActDn, api.ActPush, api.ActEvict, api.ActDrop, api.ActMem} {
				do(t, m, "nothing", []api.Act{{Kind: kind, Core: id, Line: line}})
				checkSame(t, m, "nothing", was)
			}
		}
	}
}

// P15.2: ActExec lets that core, and no other, execute one instruction.
func TestExec(t *testing.T) {
	prog := code(t, li(1, 5), tell(1), plainOp(api.Sfen), halt)
	m := of(t, shape, nil, prog, prog, prog)
	for id := range shape.Cores {
		was := look(m)
		exec := api.Act{Kind: api.ActExec, Core: id}
		do(t, m, "li", []api.Act{exec})
		was.cores[id].regs[1], was.cores[id].place = 5, 1
		checkSame(t, m, "li", was)
		do(t, m, "the rest", []api.Act{exec, exec, exec, exec}, api.Event{Kind: api.EvTell, Core: id, Val: 5}, api.Event{Kind: api.EvFence, Core: id}, api.Event{Kind: api.EvHalt, Core: id})
		was.cores[id].place, was.cores[id].runs = 3, false
		was.quiet = id == 2
		checkSame(t, m, "the rest", was)
	}
}

// P15.2: a load asks, its message goes up and one comes down, and then it reads; each message of that core alone moves.
func TestUpAndDn(t *testing.T) {
	for id := range shape.Cores {
		progs := make([][]uint64, 3)
		progs[id] = code(t, on(api.Ld, 1, 0, 136))
		m := of(t, shape, nil, progs...)
		exec := api.Act{Kind: api.ActExec, Core: id}
		do(t, m, "asks", []api.Act{exec})
		was := look(m)
		if want := []api.Msg{{Kind: api.GetS, Line: 2}}; !slices.Equal(was.cores[id].up, want) {
			t.Errorf("asked %+v; want %+v", was.cores[id].up, want)
		}
		for other := range shape.Cores {
			if other != id {
				do(t, m, "another core's", []api.Act{{Kind: api.ActUp, Core: other}, {Kind: api.ActDn, Core: other}, {Kind: api.ActAns, Core: other}})
				checkSame(t, m, "another core's", was)
			}
		}
		do(t, m, "up", []api.Act{{Kind: api.ActUp, Core: id}})
		data := first(4, 1)[2]
		was.entries[2] = dir.Entry{Here: true, Data: data, Owner: id}
		was.cores[id].up, was.cores[id].down = nil, []api.Msg{{Kind: api.DataE, Line: 2, Data: data}}
		checkSame(t, m, "up", was)
		do(t, m, "dn", []api.Act{{Kind: api.ActDn, Core: id}})
		was.cores[id].down, was.cores[id].slots = nil, []array.Slot{{State: api.Exc, Line: 2, Data: data, Used: 2}}
		checkSame(t, m, "dn", was)
		do(t, m, "reads", []api.Act{exec}, api.Event{Kind: api.EvLoad, Core: id, Line: 2, Word: 1, Val: word(2, 1)})
	}
}

// P15.2: ActDrain lets the first entry of the store buffer go, if the system takes it.
func TestDrain(t *testing.T) {
	m := newMachine(t, li(1, 64), on(api.St, 1, 1, 8), on(api.Opt, 0, 1, 64), halt)
	do(t, m, "program", acts(api.ActExec, api.ActExec, api.ActExec, api.ActExec), is(api.EvIssue, 1, 1, 64), is(api.EvWant, 2, 0, 0), is(api.EvHalt, 0, 0, 0))
	do(t, m, "asks", acts(api.ActDrain))
	do(t, m, "another core's", []api.Act{{Kind: api.ActDrain}, {Kind: api.ActDrain, Core: 2}})
	do(t, m, "stores", slices.Concat(fetched, acts(api.ActDrain)), is(api.EvStore, 1, 1, 64))
	do(t, m, "sends", acts(api.ActDrain), is(api.EvSend, 2, 0, 0))
	if up, _, _ := m.System().Queues(1); !slices.Equal(up, []api.Msg{{Kind: api.Wipe, Line: 2}}) || m.Core(1).Waits() != 1 {
		t.Errorf("sent: %+v, waits for %d", up, m.Core(1).Waits())
	}
}

// P15.2: a line that another core wrote comes by an answer.
func TestAns(t *testing.T) {
	prog := code(t, li(1, 64), on(api.St, 1, 1, 0), on(api.Ld, 2, 1, 8))
	m := of(t, shape, nil, nil, prog, code(t, on(api.Ld, 2, 0, 64)))
	m.Play(slices.Concat(acts(api.ActExec, api.ActExec, api.ActDrain), fetched, acts(api.ActDrain)))
	do(t, m, "core 2 asks", []api.Act{{Kind: api.ActExec, Core: 2}, {Kind: api.ActUp, Core: 2}, by(api.ActDn)})
	was := look(m)
	if want := []api.Msg{{Kind: api.DnAck, Line: 1, Kept: true, Dirty: true, Data: api.Line{64, 1501, 1502, 1503, 1504, 1505, 1506, 1507}}}; !slices.Equal(was.cores[1].answers, want) {
		t.Errorf("answers %+v; want %+v", was.cores[1].answers, want)
	}
	do(t, m, "another core's", []api.Act{{Kind: api.ActAns}, {Kind: api.ActAns, Core: 2}, {Kind: api.ActDn, Core: 2}})
	checkSame(t, m, "another core's", was)
	do(t, m, "answered", acts(api.ActAns))
	if now := look(m); len(now.cores[1].answers) != 0 || len(now.cores[2].down) != 1 || now.entries[1].Busy != 0 {
		t.Errorf("answered: %+v", now)
	}
	do(t, m, "core 2 reads", []api.Act{{Kind: api.ActDn, Core: 2}, {Kind: api.ActExec, Core: 2}}, api.Event{Kind: api.EvLoad, Core: 2, Line: 1, Val: 64})
	do(t, m, "core 1 reads", acts(api.ActExec), is(api.EvLoad, 1, 1, word(1, 1)))
}

// written is a machine of which core 1 wrote 7 at line 1, word 0, and halted; nothing is on its way.
func written(t *testing.T, more ...api.Ins) *machine.Machine {
	t.Helper()
	m := newMachine(t, append([]api.Ins{li(1, 64), li(2, 7), on(api.St, 2, 1, 0)}, more...)...)
	do(t, m, "written", slices.Concat(acts(api.ActExec, api.ActExec, api.ActExec, api.ActDrain), fetched, acts(api.ActDrain)), is(api.EvIssue, 1, 0, 7), is(api.EvStore, 1, 0, 7))
	return m
}

// P15.2: ActPush of a flush that is ready is an EvPush of that line; of one that is not, and of other lines, nothing. The core hears that it is done.
func TestPush(t *testing.T) {
	for _, op := range []int{api.Clwb, api.Opt, api.Flush} {
		m := written(t, on(op, 0, 1, 0))
		do(t, m, "sent", acts(api.ActExec, api.ActDrain), is(api.EvWant, 1, 0, 0), is(api.EvSend, 1, 0, 0))
		for _, kind := range []int{api.ActUp, api.ActDn, api.ActAns} {
			do(t, m, "not ready", []api.Act{at(api.ActPush, 0), at(api.ActPush, 1), at(api.ActPush, 2), at(api.ActPush, 3), by(kind)})
		}
		was := look(m)
		do(t, m, "other lines", []api.Act{at(api.ActPush, 0), at(api.ActPush, 2), at(api.ActPush, 3)})
		checkSame(t, m, "other lines", was)
		do(t, m, "ready", []api.Act{{Kind: api.ActPush, Core: 2, Line: 1}}, push(1))
		do(t, m, "pushed", []api.Act{at(api.ActPush, 1)})
		if s := m.System(); s.Memory()[1][0] != 7 || !slices.Equal(s.Waiting(), []int{1}) || m.Core(1).Waits() != 1 {
			t.Errorf("pushed: %v, %v, waits for %d", s.Memory(), s.Waiting(), m.Core(1).Waits())
		}
		do(t, m, "another core", []api.Act{{Kind: api.ActDn}, {Kind: api.ActDn, Core: 2}})
		do(t, m, "done", acts(api.ActDn), is(api.EvFlush, 1, 0, 0))
		if m.Core(1).Waits() != 0 {
			t.Errorf("done: waits for %d", m.Core(1).Waits())
		}
		do(t, m, "once", acts(api.ActDn))
	}
}

// P15.2: a line whose words the memory has already is an EvPush too, though nothing goes into the queue.
func TestPushOfOldWords(t *testing.T) {
	m := newMachine(t, on(api.Clwb, 0, 0, 128))
	do(t, m, "ready", acts(api.ActExec, api.ActDrain, api.ActUp), is(api.EvWant, 2, 0, 0), is(api.EvSend, 2, 0, 0))
	do(t, m, "push", []api.Act{at(api.ActPush, 2)}, push(2))
	if got := m.System().Waiting(); len(got) != 0 {
		t.Errorf("waiting %v; want none", got)
	}
}

// P15.2: an ActPush for which there is no room does not go through, till ActMem has written an entry.
func TestPushOfFullQueue(t *testing.T) {
	c := shape
	c.Queue = 1
	m := of(t, c, nil, nil, code(t, li(1, 64), on(api.St, 1, 1, 0), on(api.St, 1, 1, 64), on(api.Clwb, 0, 1, 0), on(api.Clwb, 0, 1, 64)))
	m.Play(slices.Repeat(acts(api.ActExec, api.ActDrain, api.ActUp, api.ActDn, api.ActAns), 30))
	do(t, m, "one goes", []api.Act{at(api.ActPush, 1), at(api.ActPush, 2)}, push(1))
	was := look(m)
	do(t, m, "no room", []api.Act{at(api.ActPush, 2), at(api.ActMem, 2), at(api.ActMem, 0)})
	checkSame(t, m, "no room", was)
	do(t, m, "written", []api.Act{at(api.ActMem, 1)})
	was.waiting = nil
	checkSame(t, m, "written", was)
	do(t, m, "room", []api.Act{at(api.ActPush, 2)}, push(2))
	if got := m.System().Waiting(); !slices.Equal(got, []int{2}) {
		t.Errorf("waiting %v; want line 2", got)
	}
}

// P15.2: ActEvict lets that core's L1 put that line out; nothing is told of it.
func TestEvict(t *testing.T) {
	m := written(t)
	was := look(m)
	do(t, m, "not there", []api.Act{at(api.ActEvict, 1), {Kind: api.ActEvict, Core: 2, Line: 1}, {Kind: api.ActEvict, Core: 1}, {Kind: api.ActEvict, Core: 1, Line: 2}})
	checkSame(t, m, "not there", was)
	do(t, m, "put out", []api.Act{{Kind: api.ActEvict, Core: 1, Line: 1}})
	data := first(4, 1)[1]
	data[0] = 7
	if up, _, _ := m.System().Queues(1); !slices.Equal(up, []api.Msg{{Kind: api.Put, Line: 1, Dirty: true, Data: data}}) {
		t.Errorf("asked %+v; want a Put", up)
	}
	do(t, m, "gone", fetched)
	if got := m.System().Slots(1); len(got) != 0 {
		t.Errorf("slots %+v; want none", got)
	}
}

// P15.2: ActDrop is an EvPush, if the L2 had newer words; else nothing; nor where a core has the line.
func TestDrop(t *testing.T) {
	for _, writes := range []bool{true, false} {
		m := newMachine(t, on(api.Ld, 1, 0, 64))
		if writes {
			m = written(t)
		} else {
			m.Play(slices.Concat(acts(api.ActExec), fetched, acts(api.ActExec)))
		}
		was := look(m)
		do(t, m, "a core has it", []api.Act{at(api.ActDrop, 1), at(api.ActDrop, 0), at(api.ActDrop, 2), at(api.ActDrop, 3)})
		checkSame(t, m, "a core has it", was)
		do(t, m, "no core has it", slices.Concat([]api.Act{{Kind: api.ActEvict, Core: 1, Line: 1}}, fetched))
		var want []api.Event
		var waiting []int
		if writes {
			want, waiting = []api.Event{push(1)}, []int{1}
		}
		do(t, m, "dropped", []api.Act{{Kind: api.ActDrop, Core: 2, Line: 1}}, want...)
		if s := m.System(); s.Entry(1) != dir.Empty() || !slices.Equal(s.Waiting(), waiting) {
			t.Errorf("dropped: %+v, waiting %v", s.Entry(1), s.Waiting())
		}
		do(t, m, "once", []api.Act{at(api.ActDrop, 1)})
	}
}

// P15.2: an ActDrop of newer words for which there is no room tells nothing, and does not go through; one of old words goes.
func TestDropOfFullQueue(t *testing.T) {
	c := shape
	c.Queue = 1
	m := of(t, c, nil, nil, code(t, li(1, 64), on(api.St, 1, 1, 0), on(api.St, 1, 1, 64), on(api.Ld, 2, 1, 128)))
	m.Play(slices.Repeat(acts(api.ActExec, api.ActDrain, api.ActUp, api.ActDn, api.ActAns), 30))
	for line := 1; line < 4; line++ {
		m.Do(api.Act{Kind: api.ActEvict, Core: 1, Line: line})
		m.Play(fetched)
	}
	do(t, m, "one goes", []api.Act{at(api.ActDrop, 1)}, push(1))
	was := look(m)
	do(t, m, "no room", []api.Act{at(api.ActDrop, 2)})
	checkSame(t, m, "no room", was)
	do(t, m, "old words", []api.Act{at(api.ActDrop, 3)})
	was.entries[3] = dir.Empty()
	checkSame(t, m, "old words", was)
	do(t, m, "room", []api.Act{at(api.ActMem, 1), at(api.ActDrop, 2)}, push(2))
}

// P15.2: ActFail takes all that is not in the memory or its queue; core 0 begins the recovery, all others are halted.
func TestFail(t *testing.T) {
	rec := code(t, on(api.Ld, 1, 0, 64), tell(1))
	m := of(t, shape, rec, nil, code(t, li(1, 64), li(2, 7), on(api.St, 2, 1, 0), on(api.Clwb, 0, 1, 0), on(api.St, 1, 1, 0), on(api.St, 2, 1, 64)))
	m.Play(slices.Repeat(append(acts(api.ActExec, api.ActDrain, api.ActUp, api.ActDn, api.ActAns), at(api.ActPush, 1)), 30))
	old, s, was := m.Core(1), m.System(), look(m)
	if was.memory[1][0] != 7 || len(was.waiting) != 1 || len(s.Slots(1)) != 2 {
		t.Fatalf("not what was to fail: %+v", was)
	}
	do(t, m, "fails", []api.Act{{Kind: api.ActFail}}, failed)
	want := view{cores: slices.Repeat([]coreView{{}}, 3), entries: slices.Repeat([]dir.Entry{{Owner: -1}}, 4), memory: first(4, 1), fails: 1}
	want.cores[0].runs = true
	want.memory[1][0] = 7
	checkSame(t, m, "failed", want)
	if m.System() != s || m.Core(1) == old || old.Place() != was.cores[1].place || old.Regs() != was.cores[1].regs {
		t.Error("the system is another one, or the cores are not new")
	}
	do(t, m, "halted", []api.Act{by(api.ActExec), {Kind: api.ActExec, Core: 2}})
	checkSame(t, m, "halted", want)
	do(t, m, "recovers", []api.Act{{Kind: api.ActExec}, {Kind: api.ActUp}, {Kind: api.ActDn}, {Kind: api.ActExec}, {Kind: api.ActExec}, {Kind: api.ActExec}},
		api.Event{Kind: api.EvLoad, Line: 1, Val: 7}, api.Event{Kind: api.EvTell, Val: 7}, api.Event{Kind: api.EvTrap})
	do(t, m, "fails again", []api.Act{{Kind: api.ActFail}}, failed)
	want.fails = 2
	checkSame(t, m, "failed again", want)
}

// P15.2: a recovery that fails begins anew each time; an empty one traps.
func TestRecovery(t *testing.T) {
	m := of(t, shape, code(t, li(1, 1), three(api.Add, 2, 2, 1), tell(2), halt), code(t, li(2, 40), halt))
	for turn := range 5 {
		do(t, m, "fails", []api.Act{{Kind: api.ActFail}}, failed)
		for range turn {
			m.Do(api.Act{Kind: api.ActExec})
		}
	}
	do(t, m, "the rest", slices.Repeat([]api.Act{{Kind: api.ActExec}}, 4))
	do(t, m, "fails", slices.Concat([]api.Act{{Kind: api.ActFail}}, slices.Repeat([]api.Act{{Kind: api.ActExec}}, 5)), failed, api.Event{Kind: api.EvTell, Val: 1}, api.Event{Kind: api.EvHalt})
	for _, rec := range [][]uint64{nil, {}} {
		m = of(t, shape, rec)
		do(t, m, "empty", []api.Act{{Kind: api.ActFail}, {Kind: api.ActExec}, {Kind: api.ActExec}}, failed, api.Event{Kind: api.EvTrap})
	}
}

// P15.2: Play is Do of all, one behind the other, and leaves its list as it is.
func TestPlay(t *testing.T) {
	for seed := range 30 {
		d := dice(seed)
		one, two := busy(t), busy(t)
		var l []api.Act
		for range d.roll(500) {
			l = append(l, d.act(shape, true))
		}
		was := slices.Clone(l)
		var want []api.Event
		for _, a := range l {
			want = append(want, two.Do(a)...)
		}
		checkEvents(t, "Play", one.Play(l), want...)
		checkSame(t, one, "Play", look(two))
		if !slices.Equal(l, was) {
			t.Error("Play changed its list")
		}
	}
	m := busy(t)
	was := look(m)
	checkEvents(t, "none", m.Play(nil))
	checkEvents(t, "none", m.Play([]api.Act{}))
	checkSame(t, m, "none", was)
}

// P15.2: of a list Play does the first MaxSteps acts; each time anew.
func TestPlayMany(t *testing.T) {
	loop := code(t, tell(0), on(api.Jmp, 0, 0, 0))
	for _, n := range []int{api.MaxSteps - 2, api.MaxSteps, api.MaxSteps + 1, api.MaxSteps + 2, 2*api.MaxSteps + 2} {
		m := of(t, shape, nil, loop)
		for range 2 {
			if got, want := len(m.Play(slices.Repeat([]api.Act{{Kind: api.ActExec}}, n))), (min(n, api.MaxSteps)+1)/2; got != want {
				t.Errorf("%d acts: %d events; want %d", n, got, want)
			}
		}
	}
	l := make([]api.Act, api.MaxSteps+1) // acts that are none count, too
	l[api.MaxSteps].Kind = api.ActFail
	m := newMachine(t)
	checkEvents(t, "too late", m.Play(l))
	l[api.MaxSteps-1].Kind = api.ActFail
	checkEvents(t, "the last one", m.Play(l), failed)
	if m.Fails() != 1 {
		t.Errorf("Fails: %d; want 1", m.Fails())
	}
}
