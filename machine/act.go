package machine

import "bellows/api"

// doing is what an act of one kind does, and the events of that. The layers below do nothing for a core or a line that there is not.
type doing func(m *Machine, a api.Act) []api.Event

// Do lets a happen, and tells the events of that, in their order.
func (m *Machine) Do(a api.Act) []api.Event {
	if m == nil || a.Kind < api.ActExec || a.Kind > api.ActFail {
		return nil
	}
	return doings()[a.Kind](m, a)
}

// Play lets the first MaxSteps acts of l happen, one behind the other, and tells the events of all.
func (m *Machine) Play(l []api.Act) []api.Event {
	var events []api.Event
	for _, a := range l[:min(len(l), api.MaxSteps)] {
		events = append(events, m.Do(a)...)
	}
	return events
}

// doings has what each kind of act does, by the kind's number.
func doings() [api.ActFail + 1]doing {
	return [api.ActFail + 1]doing{
		api.ActExec:  (*Machine).exec,
		api.ActDrain: (*Machine).drain,
		api.ActUp:    (*Machine).up,
		api.ActAns:   (*Machine).answer,
		api.ActDn:    (*Machine).hear,
		api.ActPush:  (*Machine).push,
		api.ActEvict: (*Machine).evict,
		api.ActDrop:  (*Machine).drop,
		api.ActMem:   (*Machine).write,
		api.ActFail:  (*Machine).fail,
	}
}

// exec lets the core execute an instruction.
func (m *Machine) exec(a api.Act) []api.Event {
	return m.Core(a.Core).Exec(m.system)
}

// drain lets the first entry of the core's store buffer go.
func (m *Machine) drain(a api.Act) []api.Event {
	return m.Core(a.Core).Drain(m.system)
}

// up lets the core's first request reach the L2.
func (m *Machine) up(a api.Act) []api.Event {
	m.system.Up(a.Core)
	return nil
}

// answer lets the core's first answer reach the L2.
func (m *Machine) answer(a api.Act) []api.Event {
	m.system.Answer(a.Core)
	return nil
}

// hear lets the first message to the core reach its L1, and the core itself.
func (m *Machine) hear(a api.Act) []api.Event {
	told, e := m.system.Hear(a.Core)
	if e != api.OK {
		return nil
	}
	return m.Core(a.Core).Hear(told)
}

// push lets a flush of the line that is ready go to the memory's queue.
func (m *Machine) push(a api.Act) []api.Event {
	if m.system.Push(a.Line) != api.OK {
		return nil
	}
	return pushed(a.Line)
}

// evict lets the core's L1 put the line out.
func (m *Machine) evict(a api.Act) []api.Event {
	m.system.Evict(a.Core, a.Line)
	return nil
}

// drop lets the L2 put the line out; if the memory's words are elder, its own go there.
func (m *Machine) drop(a api.Act) []api.Event {
	newer := m.system.Entry(a.Line).Dirty
	if m.system.Drop(a.Line) != api.OK || !newer {
		return nil
	}
	return pushed(a.Line)
}

// write lets the memory's queue write its eldest entry of the line.
func (m *Machine) write(a api.Act) []api.Event {
	m.system.Drain(a.Line)
	return nil
}

// fail takes the power away, and gives it back: core 0 begins the recovery, and no other core runs.
func (m *Machine) fail(api.Act) []api.Event {
	m.fails++
	m.system.Fail()
	progs := make([][]uint64, len(m.cores))
	progs[0] = m.rec
	m.cores, _ = coresOf(m.system.Config().Store, progs) // all of them were tried by New
	for _, c := range m.cores[1:] {
		c.Stop()
	}
	return []api.Event{{Kind: api.EvFail}}
}

// pushed is the event that the line went to the memory's queue.
func pushed(line int) []api.Event {
	return []api.Event{{Kind: api.EvPush, Line: line}}
}
