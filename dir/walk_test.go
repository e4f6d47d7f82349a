package dir_test

import (
	"testing"

	"bellows/api"
	"bellows/dir"
)

// dice are numbers that come one behind the other, always the same.
type dice uint64

func (d *dice) roll(sides int) int {
	*d = *d*6364136223846793005 + 1442695040888963407
	return int(*d >> 33 % dice(sides))
}

// checkTold holds P7.5 of an entry that was told of by these sends.
func checkTold(t *testing.T, e dir.Entry, sends []dir.Send) {
	t.Helper()
	if !dir.Good(e) || e.Owner != -1 && e.Share != 0 {
		t.Errorf("%+v: an Owner and a reader, or not good", e)
	}
	for _, s := range sends {
		switch s.M.Kind {
		case api.DataE, api.DataM:
			if e.Owner != s.To {
				t.Errorf("%+v: %d is told %d, and is not the Owner", e, s.To, s.M.Kind)
			}
		case api.DataS:
			if e.Owner != -1 || e.Share>>s.To%2 == 0 {
				t.Errorf("%+v: %d is told DataS, and is no reader", e, s.To)
			}
		}
	}
}

// P7.5: whatever cores ask and answer, of what is told an Owner stands alone, and who is told words has them.
func TestWildWalk(t *testing.T) {
	d := dice(7)
	e := here(-1, 0)
	var over, pushed int
	for range 200000 {
		core := d.roll(8)
		asks, answers := requests(line), replies(line)
		steps := []func() (dir.Entry, []dir.Send, api.Errno){
			func() (dir.Entry, []dir.Send, api.Errno) { return dir.Ask(e, core, asks[d.roll(len(asks))]) },
			func() (dir.Entry, []dir.Send, api.Errno) { return dir.Answer(e, core, answers[d.roll(len(answers))]) },
			func() (dir.Entry, []dir.Send, api.Errno) { return dir.Pushed(e) },
		}
		kind := d.roll(len(steps))
		next, sends, err := steps[kind]()
		if err != api.OK {
			checkNone(t, call{name: "a step", e: e, core: core}, next, sends, err, err)
			continue
		}
		if kind == 1 && next.Busy == 0 {
			over++
		}
		if kind == 2 {
			pushed++
		}
		e = next
		checkTold(t, e, sends)
		if t.Failed() {
			return
		}
	}
	if over < 100 || pushed < 100 {
		t.Errorf("%d requests were over, %d flushes pushed; want more", over, pushed)
	}
}

// whole is a line, and cores that do as they are told: each has the line to write (2), to read (1) or not (0).
type whole struct {
	t      *testing.T
	d      dice
	e      dir.Entry
	memory uint64
	last   uint64 // what was written last
	may    [8]int
	dirty  [8]bool
	words  [8]uint64
}

// ask lets core ask m, and all cores answer till it is over.
func (w *whole) ask(core int, m api.Msg) {
	e, sends, err := dir.Ask(w.e, core, m)
	w.went("Ask", e, err, sends)
	for len(sends) > 0 { // in any order
		i := w.d.roll(len(sends))
		s := sends[i]
		sends = append(append([]dir.Send{}, sends[:i]...), sends[i+1:]...)
		sends = append(sends, w.hear(s)...)
	}
	if dir.Ready(w.e) {
		if w.e.Dirty {
			w.memory = w.e.Data[5]
		}
		e, sends, err := dir.Pushed(w.e)
		w.went("Pushed", e, err, sends)
		if w.memory != w.last {
			w.t.Errorf("the memory has %d behind a flush; want %d", w.memory, w.last)
		}
	}
	if w.e.Busy != 0 {
		w.t.Errorf("%+v is busy when all is answered", w.e)
	}
	w.check()
}

// went takes what became of the entry.
func (w *whole) went(what string, e dir.Entry, err api.Errno, sends []dir.Send) {
	if err != api.OK {
		w.t.Errorf("%s of %+v: %d", what, w.e, err)
		return
	}
	w.e = e
	checkTold(w.t, e, sends)
}

// hear lets a core do as it is told, and tells what is told of its answer.
func (w *whole) hear(s dir.Send) []dir.Send {
	m := api.Msg{Line: line, Dirty: w.dirty[s.To]}
	if m.Dirty {
		m.Data[5] = w.words[s.To]
	}
	switch s.M.Kind {
	case api.DataS, api.DataE, api.DataM:
		w.may[s.To], w.words[s.To] = map[int]int{api.DataS: 1, api.DataE: 2, api.DataM: 2}[s.M.Kind], s.M.Data[5]
		return nil
	case api.PutAck:
		return nil
	case api.Invl:
		m.Kind = api.InvAck
		w.may[s.To] = 0
	case api.Down:
		m.Kind, m.Kept = api.DnAck, true
		w.may[s.To] = 1
	default:
		w.t.Errorf("%d is told %+v", s.To, s.M)
	}
	w.dirty[s.To] = false
	e, sends, err := dir.Answer(w.e, s.To, m)
	w.went("Answer", e, err, sends)
	return sends
}

// check holds that who writes does so alone, and that whoever reads reads what was written last.
func (w *whole) check() {
	readers, writers := 0, 0
	for core, may := range w.may {
		if may == 1 {
			readers++
		}
		if may == 2 {
			writers++
		}
		if may > 0 && w.words[core] != w.last {
			w.t.Errorf("%d reads %d; want %d", core, w.words[core], w.last)
		}
	}
	if writers > 1 || writers == 1 && readers > 0 {
		w.t.Errorf("%d writers, %d readers", writers, readers)
	}
}

// step lets core do something that it may do, or ask for.
func (w *whole) step(n uint64) {
	core := w.d.roll(8)
	switch w.d.roll(6) {
	case 0, 1:
		if w.may[core] == 0 {
			w.ask(core, api.Msg{Kind: api.GetS, Line: line})
		}
	case 2, 3:
		if w.may[core] < 2 {
			w.ask(core, api.Msg{Kind: api.GetM, Line: line})
		}
		w.words[core], w.dirty[core], w.last = n, true, n
		w.check()
	case 4:
		m := api.Msg{Kind: api.Put, Line: line, Dirty: w.dirty[core]}
		if m.Dirty {
			m.Data[5] = w.words[core]
		}
		w.may[core], w.dirty[core] = 0, false
		w.ask(core, m)
	case 5:
		w.ask(core, api.Msg{Kind: []int{api.Clean, api.Wipe}[w.d.roll(2)], Line: line})
	}
}

// P7.2 to P7.5: cores that do as they are told read what was written last, nobody beside one who writes, and a flush brings it to the memory.
func TestWholeWalk(t *testing.T) {
	for start := range dice(8) {
		w := &whole{t: t, d: start, e: dir.Entry{Here: true, Owner: -1}}
		for n := range uint64(5000) {
			w.step(n + 1)
			if t.Failed() {
				return
			}
		}
	}
}
