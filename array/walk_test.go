package array_test

import (
	"slices"
	"testing"

	"bellows/api"
	"bellows/array"
)

// plain is an array in the plainest form: what each way of each set has, by numbers of sets and ways.
type plain struct {
	ways [8][8]array.Slot
	sets int
	many int // ways of a set
	last int
}

func (p *plain) find(line int) (set, way int, ok bool) {
	for set := range p.sets {
		for way := range p.many {
			if s := p.ways[set][way]; s.State != 0 && s.Line == line {
				return set, way, true
			}
		}
	}
	return 0, 0, false
}

func (p *plain) room(line int) (bool, int) {
	rest := map[int]int{} // lines by when they were used
	set := line % p.sets
	for way := range p.many {
		s := p.ways[set][way]
		if s.State == 0 {
			return true, -1
		}
		if s.State <= 3 {
			rest[s.Used] = s.Line
		}
	}
	for used := 1; used <= p.last; used++ {
		if line, ok := rest[used]; ok {
			return false, line
		}
	}
	return false, -1
}

func (p *plain) set(line, state int, l api.Line) api.Errno {
	set, way, ok := p.find(line)
	if !ok {
		set, way = line%p.sets, 0
		for way < p.many && p.ways[set][way].State != 0 {
			way++
		}
		if way == p.many {
			return api.ErrFull
		}
	}
	p.last++
	p.ways[set][way] = array.Slot{State: state, Line: line, Data: l, Used: p.last}
	return api.OK
}

func (p *plain) touch(line int) {
	if set, way, ok := p.find(line); ok {
		p.last++
		p.ways[set][way].Used = p.last
	}
}

func (p *plain) drop(line int) bool {
	set, way, ok := p.find(line)
	if ok {
		p.ways[set][way] = array.Slot{}
	}
	return ok
}

func (p *plain) slots() []array.Slot {
	var l []array.Slot
	for set := range p.sets {
		for way := range p.many {
			if s := p.ways[set][way]; s.State != 0 {
				l = append(l, s)
			}
		}
	}
	return l
}

// checkOnce holds that each line stands once, and that no set has more of them than ways.
func checkOnce(t *testing.T, slots []array.Slot, sets, ways int) {
	t.Helper()
	lines, many := map[int]int{}, map[int]int{}
	set := 0
	for _, s := range slots {
		lines[s.Line]++
		many[s.Line%sets]++
		if lines[s.Line] > 1 || many[s.Line%sets] > ways {
			t.Errorf("%d sets, %d ways: too much of line %d: %v", sets, ways, s.Line, slots)
		}
		if s.Line%sets < set {
			t.Errorf("%d sets, %d ways: line %d in another set: %v", sets, ways, s.Line, slots)
		}
		set = s.Line % sets
	}
}

// step does one thing to both, and holds what they tell against each other.
func step(t *testing.T, a *array.Array, p *plain, kind, line, state int, l api.Line) {
	t.Helper()
	switch kind {
	case 0, 1, 2, 3:
		if got, want := a.Set(line, state, l), p.set(line, state, l); got != want {
			t.Errorf("Set(%d, %d): %d; want %d", line, state, got, want)
		}
	case 4, 5:
		a.Touch(line)
		p.touch(line)
	case 6:
		if got, want := a.Drop(line), p.drop(line); got != want {
			t.Errorf("Drop(%d): %v; want %v", line, got, want)
		}
	}
	free, victim := a.Room(line)
	if wantFree, want := p.room(line); free != wantFree || victim != want {
		t.Errorf("Room(%d): %v, %d; want %v, %d", line, free, victim, wantFree, want)
	}
	var want array.Slot
	set, way, wantOK := p.find(line)
	if wantOK {
		want = p.ways[set][way]
	}
	if got, ok := a.Find(line); got != want || ok != wantOK {
		t.Errorf("Find(%d): %v, %v; want %v, %v", line, got, ok, want, wantOK)
	}
}

// walk goes a long way with one shape, and stops behind its first fault.
func walk(t *testing.T, sets, ways int) {
	a := newArray(t, sets, ways)
	p := &plain{sets: sets, many: ways}
	n := uint64(sets*100 + ways)
	for range 1500 {
		n = n*6364136223846793005 + 1442695040888963407
		r := n >> 24
		kind, line, state := int(r%7), int(r>>8)%(sets*ways*2+1), 1+int(r>>20)%9
		if r>>30%3 > 0 { // at rest more often
			state = 1 + state%3
		}
		step(t, a, p, kind, line, state, api.Line{r, 7: n})
		slots := a.Slots()
		if want := p.slots(); !slices.Equal(slots, want) {
			t.Errorf("%d sets, %d ways: Slots %v; want %v", sets, ways, slots, want)
		}
		checkOnce(t, slots, sets, ways)
		if t.Failed() {
			return
		}
	}
}

// P5.1, P5.2 and P5.3: long walks with each shape, beside a plain array; each line stands once, and in its own set.
func TestWalks(t *testing.T) {
	for _, sets := range setCounts {
		for ways := 1; ways <= 8; ways++ {
			walk(t, sets, ways)
		}
	}
}
