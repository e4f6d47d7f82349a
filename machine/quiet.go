package machine

import (
	"bellows/api"
	"bellows/core"
)

// Quiet tells whether no core runs and nothing is on its way, but what waits in the memory's queue.
func (m *Machine) Quiet() bool {
	if m == nil {
		return false
	}
	for id, c := range m.cores {
		if !isDone(c) || !m.isStill(id) || !m.isIdle(id) {
			return false
		}
	}
	for line := range m.system.Config().Lines {
		if m.system.Entry(line).Busy != 0 {
			return false
		}
	}
	return true
}

// isDone tells whether the core runs no more, its store buffer is empty, and all its flushes are answered.
func isDone(c *core.Core) bool {
	return !c.Runs() && len(c.Buffer()) == 0 && c.Waits() == 0
}

// isStill tells whether no message from the core or to it is on its way.
func (m *Machine) isStill(id int) bool {
	up, answers, down := m.system.Queues(id)
	return len(up) == 0 && len(answers) == 0 && len(down) == 0
}

// isIdle tells whether the core's L1 has no line on its way.
func (m *Machine) isIdle(id int) bool {
	for _, s := range m.system.Slots(id) {
		if !atRest(s.State) {
			return false
		}
	}
	return true
}

func atRest(state int) bool {
	switch state {
	case api.Shd, api.Exc, api.Mod:
		return true
	}
	return false
}
