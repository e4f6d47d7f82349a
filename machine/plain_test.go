package machine_test

import (
	"testing"

	"bellows/api"
	"bellows/core"
	"bellows/mesi"
)

// plain is a machine in the plainest form: a system and cores of its own, which acts by their numbers go to.
type plain struct {
	t     *testing.T
	s     *mesi.System
	cores []*core.Core
	rec   []uint64
	fails int
}

func newPlain(t *testing.T, c api.Config, img []api.Line, progs [][]uint64, rec []uint64) *plain {
	t.Helper()
	s, e := mesi.New(c, img)
	if e != api.OK {
		t.Fatalf("mesi.New: %d", e)
	}
	p := &plain{t: t, s: s, rec: rec}
	p.start(progs)
	return p
}

func (p *plain) start(progs [][]uint64) {
	p.cores = nil
	for id, prog := range progs {
		c, e := core.New(id, p.s.Config().Store, prog)
		if e != api.OK {
			p.t.Fatalf("core.New: %d", e)
		}
		p.cores = append(p.cores, c)
	}
}

// do lets an act happen, and tells its events.
func (p *plain) do(a api.Act) []api.Event {
	c := p.s.Config()
	isCore, isLine := a.Core >= 0 && a.Core < c.Cores, a.Line >= 0 && a.Line < c.Lines
	switch {
	case a.Kind == 10:
		return p.fail()
	case isCore && a.Kind >= 1 && a.Kind <= 5:
		return p.ofCore(a.Kind, a.Core)
	case isCore && isLine && a.Kind == 7:
		p.s.Evict(a.Core, a.Line)
	case isLine && a.Kind == 6:
		if p.s.Push(a.Line) == api.OK {
			return []api.Event{{Kind: api.EvPush, Line: a.Line}}
		}
	case isLine && a.Kind == 8:
		was := p.s.Entry(a.Line)
		if p.s.Drop(a.Line) == api.OK && was.Dirty {
			return []api.Event{{Kind: api.EvPush, Line: a.Line}}
		}
	case isLine && a.Kind == 9:
		p.s.Drain(a.Line)
	}
	return nil
}

func (p *plain) ofCore(kind, id int) []api.Event {
	switch kind {
	case 1:
		return p.cores[id].Exec(p.s)
	case 2:
		return p.cores[id].Drain(p.s)
	case 3:
		p.s.Up(id)
	case 4:
		p.s.Answer(id)
	case 5:
		if m, e := p.s.Hear(id); e == api.OK {
			return p.cores[id].Hear(m)
		}
	}
	return nil
}

func (p *plain) fail() []api.Event {
	progs := make([][]uint64, len(p.cores))
	progs[0] = p.rec
	p.fails++
	p.s.Fail()
	p.start(progs)
	for _, c := range p.cores[1:] {
		c.Stop()
	}
	return []api.Event{{Kind: api.EvFail}}
}

// look tells what a machine should tell.
func (p *plain) look() view {
	v := lookAt(p.s)
	v.fails, v.quiet = p.fails, true
	for id, c := range p.cores {
		x := &v.cores[id]
		x.regs, x.place, x.waits, x.buffer, x.runs = c.Regs(), c.Place(), c.Waits(), c.Buffer(), c.Runs()
		if x.runs || len(x.buffer)+x.waits+len(x.up)+len(x.answers)+len(x.down) > 0 {
			v.quiet = false
		}
		for _, s := range x.slots {
			v.quiet = v.quiet && s.State <= api.Mod
		}
	}
	for _, e := range v.entries {
		v.quiet = v.quiet && e.Busy == 0
	}
	return v
}
