package core

import (
	"bellows/alu"
	"bellows/api"
	"bellows/mesi"
	"bellows/sbuf"
	"bellows/word"
)

// Exec lets the core execute the instruction at its place.
func (c *Core) Exec(s *mesi.System) []api.Event {
	if !c.Runs() || s == nil {
		return nil
	}
	i, ok := c.here()
	if !ok {
		return c.end(api.EvTrap)
	}
	switch i.Op {
	case api.Nop:
	case api.Li:
		c.regs[i.A] = uint64(i.Imm)
	case api.Add, api.Sub, api.And, api.Xor, api.Shl, api.Shr:
		c.regs[i.A], _ = alu.Do(i.Op, c.regs[i.B], c.regs[i.C])
	case api.Jmp, api.Beq, api.Bne, api.Blt:
		return c.jump(i)
	case api.Tell:
		return c.next(c.event(api.EvTell, 0, 0, c.regs[i.A]))
	case api.Halt:
		return c.end(api.EvHalt)
	case api.Sfen, api.Mfen:
		return c.fence()
	default:
		return c.access(s, i)
	}
	return c.next()
}

// here tells the instruction at the core's place; false, if there is none.
func (c *Core) here() (api.Ins, bool) {
	if c.place >= len(c.prog) {
		return api.Ins{}, false
	}
	return c.prog[c.place].instruction()
}

// next goes on to the next place, and tells what happened.
func (c *Core) next(events ...api.Event) []api.Event {
	c.place++
	return events
}

// end lets the core run no more.
func (c *Core) end(kind int) []api.Event {
	c.runs = false
	return []api.Event{c.event(kind, 0, 0, 0)}
}

// jump goes where i says, if it goes.
func (c *Core) jump(i api.Ins) []api.Event {
	if goes, _ := alu.Goes(i.Op, c.regs[i.A], c.regs[i.B]); goes {
		c.place = int(i.Imm)
		return nil
	}
	return c.next()
}

// fence goes on when all that stands ahead of it is done.
func (c *Core) fence() []api.Event {
	if !c.settled() {
		return nil
	}
	return c.next(c.event(api.EvFence, 0, 0, 0))
}

// access does what has an address.
func (c *Core) access(s *mesi.System, i api.Ins) []api.Event {
	addr := alu.Sum(c.regs[i.B], i.Imm) // Cas and Xadd have no Imm: theirs is 0
	line, w, e := word.At(s.Config().Lines, addr)
	if e != api.OK {
		return c.end(api.EvTrap)
	}
	switch i.Op {
	case api.Ld:
		return c.load(s, i.A, line, w)
	case api.St:
		return c.put(api.EvIssue, sbuf.Entry{Kind: i.Op, Line: line, Word: w, Val: c.regs[i.A]})
	case api.Cas, api.Xadd:
		return c.change(s, i, line, w)
	}
	return c.put(api.EvWant, sbuf.Entry{Kind: i.Op, Line: line})
}

// load puts that word of the line into register a: the core's own last store to it, or else what all see.
func (c *Core) load(s *mesi.System, a, line, w int) []api.Event {
	kind := api.EvOwn
	v, ok := c.buffer.Find(line, w)
	if !ok {
		kind = api.EvLoad
		v, ok = s.Load(c.id, line, w)
	}
	if !ok {
		return nil
	}
	c.regs[a] = v
	return c.next(c.event(kind, line, w, v))
}

// put makes e the last entry of the store buffer, if there is room.
func (c *Core) put(kind int, e sbuf.Entry) []api.Event {
	if c.buffer.Push(e) != api.OK {
		return nil
	}
	return c.next(c.event(kind, e.Line, e.Word, e.Val))
}

// change does Cas and Xadd, when nothing of this core is on its way and it alone may write the line.
func (c *Core) change(s *mesi.System, i api.Ins, line, w int) []api.Event {
	if !c.settled() || !s.Reach(c.id, line) {
		return nil
	}
	old, _ := s.Load(c.id, line, w) // what may be written hits
	events := []api.Event{c.event(api.EvRmw, line, w, old)}
	if v, stores := c.changed(i, old); stores {
		s.Store(c.id, line, w, v)
		events = append(events, c.event(api.EvStore, line, w, v))
	}
	c.regs[i.A] = old
	return c.next(events...)
}

// changed tells what Cas or Xadd stores where old stood; false, if nothing.
func (c *Core) changed(i api.Ins, old uint64) (uint64, bool) {
	if i.Op == api.Cas {
		return c.regs[i.C], old == c.regs[i.A]
	}
	return old + c.regs[i.C], true
}
