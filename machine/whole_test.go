package machine_test

import (
	"slices"
	"testing"

	"bellows/api"
	"bellows/machine"
)

// pair is a machine of two cores, and a third one that does nothing.
func pair(t *testing.T, one, two []api.Ins) *machine.Machine {
	t.Helper()
	m := of(t, shape, nil, code(t, one...), code(t, two...))
	m.Core(2).Stop()
	return m
}

// goes are acts of cores 0 and 1 by which all but their programs goes on for a while.
func goes() []api.Act {
	var l []api.Act
	for range 12 {
		for id := range 2 {
			for kind := api.ActDrain; kind <= api.ActDn; kind++ {
				l = append(l, api.Act{Kind: kind, Core: id})
			}
		}
		for line := range shape.Lines {
			l = append(l, at(api.ActPush, line))
		}
	}
	return l
}

// exec is so many instructions of that core.
func exec(id, n int) []api.Act {
	return slices.Repeat([]api.Act{{Kind: api.ActExec, Core: id}}, n)
}

// The whole's examples 1 and 2: a core reads its own store out of its buffer; another one reads what was there, till the store has left the buffer.
func TestOwnStore(t *testing.T) {
	m := pair(t, []api.Ins{li(1, 5), on(api.St, 1, 0, 64), on(api.Ld, 2, 0, 64)}, []api.Ins{on(api.Ld, 2, 0, 64), on(api.Ld, 3, 0, 64)})
	issue, own := api.Event{Kind: api.EvIssue, Line: 1, Val: 5}, api.Event{Kind: api.EvOwn, Line: 1, Val: 5}
	do(t, m, "its own", exec(0, 3), issue, own)
	do(t, m, "the other one", slices.Concat(exec(1, 1), fetched, exec(1, 1)), is(api.EvLoad, 1, 0, word(1, 0)))
	do(t, m, "seen", goes(), api.Event{Kind: api.EvStore, Line: 1, Val: 5})
	do(t, m, "asked again", slices.Concat(exec(1, 1), goes(), exec(1, 1)), is(api.EvLoad, 1, 0, 5))
}

// The whole's example 3: two cores that store and then load may both read what was there; with fences they do not.
func TestBothReadOld(t *testing.T) {
	for _, fenced := range []bool{false, true} {
		var progs [2][]api.Ins
		for id := range progs {
			l := []api.Ins{li(1, 5), on(api.St, 1, 0, int64(64+64*id))}
			if fenced {
				l = append(l, plainOp(api.Mfen))
			}
			progs[id] = append(l, on(api.Ld, 2, 0, int64(128-64*id)), halt)
		}
		m := pair(t, progs[0], progs[1])
		for range 20 {
			m.Play(slices.Concat(exec(0, 1), exec(1, 1)))
			m.Play(slices.DeleteFunc(goes(), func(a api.Act) bool { // stores go last
				return a.Kind == api.ActDrain && m.Core(a.Core).Runs() && !fenced
			}))
		}
		checkQuiet(t, m, "all is done", true)
		old := m.Core(0).Regs()[2] == word(2, 0) && m.Core(1).Regs()[2] == word(1, 0)
		if old == fenced {
			t.Errorf("fenced: %v; both read what was there: %v", fenced, old)
		}
	}
}

// The whole's example 4: a line goes from core to core, and each reads what the last one wrote.
func TestFromCoreToCore(t *testing.T) {
	m := pair(t, []api.Ins{li(1, 64), li(2, 1), three(api.Xadd, 3, 1, 2), on(api.Jmp, 0, 0, 2)}, []api.Ins{li(1, 64), li(2, 1), three(api.Xadd, 3, 1, 2), on(api.Jmp, 0, 0, 2)})
	m.Play(slices.Concat(exec(0, 2), exec(1, 2)))
	for n := range 20 {
		id, v := n%2, word(1, 0)+uint64(n)
		do(t, m, "its turn", slices.Concat(exec(id, 1), goes(), exec(id, 2)),
			api.Event{Kind: api.EvRmw, Core: id, Line: 1, Val: v}, api.Event{Kind: api.EvStore, Core: id, Line: 1, Val: v + 1})
	}
}

// The whole's examples 5 and 6: a store that was not flushed is lost, or not; one that was flushed and fenced is there.
func TestWhatIsLeft(t *testing.T) {
	flushed := []api.Ins{li(1, 5), on(api.St, 1, 0, 64), on(api.Clwb, 0, 0, 64), plainOp(api.Sfen), halt}
	for _, x := range []struct {
		what string
		prog []api.Ins
		more []api.Act
		want uint64
	}{
		{"not flushed", []api.Ins{li(1, 5), on(api.St, 1, 0, 64), halt}, nil, word(1, 0)},
		{"not flushed, and put out", []api.Ins{li(1, 5), on(api.St, 1, 0, 64), halt}, slices.Concat([]api.Act{{Kind: api.ActEvict, Line: 1}}, goes(), []api.Act{at(api.ActDrop, 1)}), 5},
		{"flushed and fenced", flushed, nil, 5},
		{"flushed and fenced, of a line that forgets", []api.Ins{li(1, 5), on(api.St, 1, 0, 0), on(api.Clwb, 0, 0, 0), plainOp(api.Sfen), halt}, nil, word(1, 0)},
	} {
		m := pair(t, x.prog, nil)
		for range 10 {
			m.Play(append(goes(), exec(0, 1)...))
		}
		if m.Core(0).Runs() {
			t.Errorf("%s: it still runs", x.what)
		}
		m.Play(append(goes(), x.more...))
		m.Do(api.Act{Kind: api.ActFail})
		if got := m.System().Memory(); got[1][0] != x.want || got[0] != (api.Line{}) {
			t.Errorf("%s: %v; want %d in line 1, zeros in line 0", x.what, got, x.want)
		}
	}
}
