package bus_test

import (
	"math"
	"testing"

	"bellows/api"
)

// vals are words that a store may have.
var vals = []uint64{0, 1, 255, 256, 1 << 31, 1 << 32, 1 << 63, math.MaxUint64}

// allowed is an event of core 1 with what makes it allowed, and which of its fields are named.
type allowed struct {
	ahead            []api.Event
	e                api.Event
	core, line, word bool
}

// everyKind has of each kind one that is allowed.
func everyKind() []allowed {
	return []allowed{
		{nil, load(2, 3, word(2, 3)), true, true, true},
		{[]api.Event{issue(2, 3, 5)}, own(2, 3, 5), true, true, true},
		{[]api.Event{issue(2, 3, 5)}, store(2, 3, 5), true, true, true},
		{[]api.Event{rmw(2, 3, word(2, 3))}, store(2, 3, 5), true, true, true},
		{nil, rmw(2, 3, word(2, 3)), true, true, true},
		{nil, push(2), false, true, false},
		{[]api.Event{want(2), send(2), push(2)}, flushed(2), true, true, false},
		{nil, fence(), true, false, false},
		{nil, tell(), true, false, false},
		{nil, halt(), true, false, false},
		{nil, trap(), true, false, false},
		{nil, fails(), false, false, false},
		{nil, issue(2, 3, 5), true, true, true},
		{[]api.Event{want(2)}, send(2), true, true, false},
		{nil, want(2), true, true, false},
	}
}

// The chapter's example.
func TestExample(t *testing.T) {
	b := newBus(t)
	do(t, b, issue(2, 0, 5), own(2, 0, 5), store(2, 0, 5), load(2, 0, 5))
	refuses(t, b, load(2, 0, 0), load(2, 0, word(2, 0)))
}

// P14.2: each kind is allowed, where all is as it asks.
func TestEveryKind(t *testing.T) {
	met := map[int]int{}
	for _, x := range everyKind() {
		b := newBus(t)
		do(t, b, x.ahead...)
		do(t, b, x.e)
		met[x.e.Kind]++
	}
	if len(met) != 14 {
		t.Errorf("%d kinds; want 14", len(met))
	}
}

// P14.2: kinds that there are not are not allowed.
func TestNoKind(t *testing.T) {
	b := newBus(t)
	do(t, b, issue(2, 3, 5), want(2))
	for _, kind := range append([]int{0}, far...) {
		refuses(t, b, is(kind, 2, 3, 5), api.Event{Kind: kind})
	}
}

// P14.2: a core, a line, a word that a kind names has to be there; what it does not name may be any number.
func TestNames(t *testing.T) {
	for _, x := range everyKind() {
		for field, named := range []bool{x.core, x.line, x.word} {
			numbers := append([]int{0, 2, 3, 7, 8}, far...)
			if named {
				numbers = append([]int{[]int{shape.Cores, shape.Lines, api.Words}[field], 9, 10, 12, 13}, far...)
			}
			for _, n := range numbers {
				b, e := newBus(t), x.e
				do(t, b, x.ahead...)
				*[]*int{&e.Core, &e.Line, &e.Word}[field] = n
				if named {
					refuses(t, b, e)
				}
				if !named {
					do(t, b, e)
				} else {
					do(t, b, x.e)
				}
			}
		}
	}
}

// P14.2: what is not named is not looked at, all of it at once, the Val where nothing is read or written too; and it changes nothing else.
func TestNotNamed(t *testing.T) {
	for _, x := range everyKind() {
		for _, n := range far {
			b, other, e := newBus(t), newBus(t), x.e
			if !x.core {
				e.Core = n
			}
			if !x.line {
				e.Line = n
			}
			if !x.word {
				e.Word, e.Val = n, uint64(n)
			}
			do(t, b, x.ahead...)
			do(t, other, x.ahead...)
			do(t, b, e)
			do(t, other, x.e)
			if got, want := look(b), look(other); !got.same(want) {
				t.Errorf("%+v: %+v; want %+v", e, got, want)
			}
		}
	}
}

// P14.2: every core, every line and every word that there is are there, of the smallest shape and of the greatest.
func TestEdges(t *testing.T) {
	for _, c := range []api.Config{
		{Cores: 1, Lines: 2, Volatile: 1, Sets: 1, Ways: 1, Queue: 1, Store: 1},
		{Cores: 8, Lines: 64, Volatile: 63, Sets: 8, Ways: 8, Queue: 16, Store: 16},
	} {
		b := busOf(t, c, image(c.Lines))
		for id := range c.Cores {
			for line := range c.Lines {
				for w := range api.Words {
					v := uint64(id*100000 + line*100 + w)
					do(t, b, of(id, issue(line, w, v)), of(id, own(line, w, v)), of(id, store(line, w, v)), of(id, load(line, w, v)), of(id, rmw(line, w, v)))
				}
				do(t, b, of(id, want(line)), of(id, send(line)), push(line), of(id, flushed(line)), of(id, fence()))
			}
		}
		for _, e := range []api.Event{of(c.Cores, fence()), of(-1, fence()), push(c.Lines), push(-1), of(0, issue(c.Lines-1, api.Words, 0)), of(0, issue(c.Lines-1, -1, 0)), of(0, want(c.Lines))} {
			refuses(t, b, e)
		}
	}
}

// P14.2: of a stopped core only what is on its way goes on; other cores are not stopped.
func TestStopped(t *testing.T) {
	for _, end := range []api.Event{halt(), trap()} {
		for _, x := range everyKind() {
			b := newBus(t)
			do(t, b, x.ahead...)
			do(t, b, end)
			switch x.e.Kind {
			case api.EvIssue, api.EvWant, api.EvLoad, api.EvOwn, api.EvRmw, api.EvFence, api.EvTell, api.EvHalt, api.EvTrap:
				refuses(t, b, x.e)
			case api.EvStore:
				if x.ahead[0].Kind == api.EvRmw { // its last event is the end
					refuses(t, b, x.e)
				} else {
					do(t, b, x.e)
				}
			default:
				do(t, b, x.e)
			}
			b = newBus(t)
			do(t, b, of(2, end))
			do(t, b, x.ahead...)
			do(t, b, x.e)
		}
	}
}

// P14.2: all that stood in a stopped core's store buffer goes, and its flushes are answered.
func TestStoppedDrains(t *testing.T) {
	b := newBus(t)
	do(t, b, issue(2, 3, 5), want(2), issue(3, 0, 6), halt(), store(2, 3, 5), send(2), store(3, 0, 6), push(2), flushed(2))
	checkPending(t, b, "stopped")
	checkLines(t, b, "stopped", with(with(first(4, 1), 2, 3, 5), 3, 0, 6), with(first(4, 1), 2, 3, 5))
	refuses(t, b, fence(), tell())
}

// P14.2: a store buffer takes any number of entries, whatever the shape's Store; they go in their order.
func TestManyEntries(t *testing.T) {
	b := newBus(t)
	for n := range 3000 {
		if n%3 == 2 {
			do(t, b, want(n%4))
		} else {
			do(t, b, issue(n%4, n%8, uint64(n)), own(n%4, n%8, uint64(n)))
		}
	}
	checkPending(t, b, "many", 0, 3000)
	for n := range 3000 {
		if n%3 == 2 {
			do(t, b, send(n%4))
		} else {
			do(t, b, store(n%4, n%8, uint64(n)))
		}
	}
	checkPending(t, b, "none")
}

// P14.2: EvIssue and EvWant change nothing that all see, or that is kept.
func TestIssue(t *testing.T) {
	for _, v := range vals {
		b := newBus(t)
		do(t, b, issue(2, 3, v), want(2), issue(0, 0, v))
		checkLines(t, b, "issued", first(4, 1), first(4, 1))
		checkPending(t, b, "issued", 0, 3)
		do(t, b, own(2, 3, v), own(0, 0, v), store(2, 3, v))
		checkLines(t, b, "stored", with(first(4, 1), 2, 3, v), first(4, 1))
	}
}

// P14.2: EvOwn is the last store of that very word, as long as there is one in that core's store buffer.
func TestOwn(t *testing.T) {
	b := newBus(t)
	refuses(t, b, own(2, 3, word(2, 3)), own(2, 3, 0))
	do(t, b, issue(2, 3, 5), issue(2, 4, 6), issue(3, 3, 7), want(2), issue(2, 3, 8))
	do(t, b, own(2, 3, 8), own(2, 4, 6), own(3, 3, 7))
	refuses(t, b, own(2, 3, 5), own(2, 3, 6), own(2, 3, 0), own(2, 5, 5), own(1, 3, 5), of(2, own(2, 3, 8)), of(0, own(2, 3, 8)))
	do(t, b, store(2, 3, 5), own(2, 3, 8), store(2, 4, 6))
	refuses(t, b, own(2, 3, 5), own(2, 4, 6), load(2, 3, 5), load(2, 3, 8))
	do(t, b, load(2, 4, 6), store(3, 3, 7), send(2), own(2, 3, 8), store(2, 3, 8))
	refuses(t, b, own(2, 3, 8), own(3, 3, 7))
	do(t, b, load(2, 3, 8), load(3, 3, 7), issue(2, 3, 9), own(2, 3, 9))
}

// P14.2: two equal stores are two entries.
func TestOwnTwice(t *testing.T) {
	b := newBus(t)
	do(t, b, issue(2, 3, 5), issue(2, 3, 5), store(2, 3, 5), own(2, 3, 5))
	refuses(t, b, load(2, 3, 5), fence())
	do(t, b, store(2, 3, 5), load(2, 3, 5), fence())
	refuses(t, b, own(2, 3, 5), store(2, 3, 5))
}

// P14.2: EvLoad is what all see, of a word of which the core has no store; flushes and other words' stores do not matter.
func TestLoad(t *testing.T) {
	for line := range shape.Lines {
		for w := range api.Words {
			b := newBus(t)
			v := first(4, 1)[line][w]
			do(t, b, load(line, w, v), issue((line+1)%4, w, 5), issue(line, (w+1)%8, 6), want(line), load(line, w, v))
			refuses(t, b, load(line, w, 5), load(line, w, v+1), load(line, w, v^1<<63))
			do(t, b, issue(line, w, v))
			refuses(t, b, load(line, w, v))
			do(t, b, of(2, load(line, w, v)), of(0, load(line, w, v)))
			refuses(t, b, of(2, load(line, w, v+1)))
		}
	}
}

// P14.2: what another core stored is loaded when all see it, and not before.
func TestLoadOthers(t *testing.T) {
	for _, v := range vals {
		b := newBus(t)
		do(t, b, of(2, issue(2, 3, v)))
		refuses(t, b, load(2, 3, v))
		do(t, b, load(2, 3, word(2, 3)), of(2, store(2, 3, v)), load(2, 3, v), of(2, load(2, 3, v)))
		refuses(t, b, load(2, 3, word(2, 3)))
	}
}

// P14.2: EvRmw and EvFence ask that the store buffer be empty and all flushes answered, of that core.
func TestSettled(t *testing.T) {
	for _, e := range []api.Event{fence(), rmw(1, 3, word(1, 3))} {
		for _, ahead := range [][]api.Event{
			{issue(2, 3, 5)}, {want(2)}, {issue(1, 3, word(1, 3))}, {issue(2, 3, 5), want(2), store(2, 3, 5)}, {want(2), issue(2, 3, 5), send(2)},
			{want(2), send(2)}, {want(2), send(2), push(2)}, {want(2), send(2), push(3)}, {want(2), want(2), send(2), send(2), push(2), flushed(2)},
			{want(2), want(3), send(2), send(3), push(2), push(3), flushed(3)}, {want(2), want(3), send(2), send(3), push(2), push(3), flushed(2)},
			{want(0), send(0)},
		} {
			b := newBus(t)
			do(t, b, e)
			do(t, b, ahead...)
			refuses(t, b, e)
			do(t, b, of(2, e), of(0, e))
		}
		for _, ahead := range [][]api.Event{
			{issue(2, 3, 5), store(2, 3, 5)}, {want(2), send(2), push(2), flushed(2)}, {want(2), want(3), send(2), send(3), push(2), push(3), flushed(3), flushed(2)},
			{want(2), want(2), send(2), send(2), push(2), flushed(2), flushed(2)}, {of(2, issue(2, 3, 5))}, {of(2, want(2)), of(2, send(2))},
			{want(0), send(0), push(0), flushed(0)},
		} {
			b := newBus(t)
			do(t, b, ahead...)
			do(t, b, e)
		}
	}
}

// P14.2: EvRmw reads what all see.
func TestRmw(t *testing.T) {
	for _, v := range vals {
		b := newBus(t)
		refuses(t, b, rmw(2, 3, v))
		do(t, b, of(2, issue(2, 3, v)), of(2, store(2, 3, v)), rmw(2, 3, v), rmw(2, 3, v))
		refuses(t, b, rmw(2, 3, v+1), rmw(2, 3, word(2, 3)), rmw(2, 4, v), rmw(1, 3, v))
		checkLines(t, b, "read", with(first(4, 1), 2, 3, v), first(4, 1))
	}
}

// P14.2: EvStore is the first entry of that core's store buffer, with its line, its word and its Val.
func TestStore(t *testing.T) {
	b := newBus(t)
	refuses(t, b, store(2, 3, 5), store(2, 3, word(2, 3)))
	do(t, b, issue(2, 3, 5), issue(2, 3, 6), issue(1, 3, 5), issue(2, 4, 5))
	refuses(t, b, store(2, 3, 6), store(1, 3, 5), store(2, 4, 5), store(2, 3, 0), store(2, 3, 5|1<<32), of(0, store(2, 3, 5)), of(2, store(2, 3, 5)), send(2))
	do(t, b, store(2, 3, 5))
	refuses(t, b, store(2, 3, 5), store(1, 3, 5))
	do(t, b, store(2, 3, 6), store(1, 3, 5), store(2, 4, 5))
	refuses(t, b, store(2, 4, 5))
	checkLines(t, b, "stored", with(with(with(first(4, 1), 2, 3, 6), 1, 3, 5), 2, 4, 5), first(4, 1))
}

// P14.2: a flush that stands ahead holds a store back, and a store a flush.
func TestStoreBehindFlush(t *testing.T) {
	b := newBus(t)
	do(t, b, want(2), issue(2, 0, 0), want(2))
	refuses(t, b, store(2, 0, 0))
	do(t, b, send(2))
	refuses(t, b, send(2))
	do(t, b, store(2, 0, 0), send(2))
	checkLines(t, b, "stored", with(first(4, 1), 2, 0, 0), first(4, 1))
}

// P14.2: behind an EvRmw, as the core's last event, any Val may be stored at that word, once.
func TestStoreOfRmw(t *testing.T) {
	for _, v := range vals {
		for line := range shape.Lines {
			b := newBus(t)
			old := first(4, 1)[line][3]
			do(t, b, rmw(line, 3, old))
			refuses(t, b, store(line, 4, v), store((line+1)%4, 3, v), of(0, store(line, 3, v)), of(2, store(line, 3, v)))
			do(t, b, store(line, 3, v))
			checkLines(t, b, "stored", with(first(4, 1), line, 3, v), first(4, 1))
			checkPending(t, b, "stored")
			refuses(t, b, store(line, 3, v), store(line, 3, v+1))
			do(t, b, rmw(line, 3, v), store(line, 3, v+1), load(line, 3, v+1))
		}
	}
}

// P14.2: any event of that core stands between an EvRmw and its store; a push, another core's event and a refused one do not.
func TestLastEvent(t *testing.T) {
	at := rmw(2, 3, word(2, 3))
	for _, x := range everyKind() {
		if len(x.ahead) > 0 {
			continue
		}
		b := newBus(t)
		do(t, b, at, x.e)
		if x.e.Kind == api.EvPush || x.e == at {
			do(t, b, store(2, 3, 77))
		} else {
			refuses(t, b, store(2, 3, 77))
		}
		b = newBus(t)
		do(t, b, at, of(2, x.e))
		if x.e.Kind != api.EvFail {
			do(t, b, store(2, 3, 77))
		}
	}
	for _, e := range []api.Event{own(2, 3, word(2, 3)), load(2, 3, 0), rmw(2, 3, 0), rmw(2, 4, 0), store(2, 4, 5), send(2), flushed(2), is(0, 2, 3, 5), of(3, tell()), issue(4, 0, 0), issue(0, 8, 0), of(2, send(2))} {
		b := newBus(t)
		do(t, b, at)
		refuses(t, b, e)
		do(t, b, store(2, 3, 77))
	}
	b := newBus(t)
	do(t, b, at, rmw(2, 4, word(2, 4)))
	refuses(t, b, store(2, 3, 77))
	do(t, b, store(2, 4, 5))
}

// P14.2: of several cores each has its own last event.
func TestLastEvents(t *testing.T) {
	b := newBus(t)
	do(t, b, rmw(2, 3, word(2, 3)), of(2, rmw(2, 3, word(2, 3))), of(0, rmw(1, 1, word(1, 1))), of(2, store(2, 3, 5)), store(2, 3, 6), of(0, store(1, 1, 7)))
	checkLines(t, b, "stored", with(with(first(4, 1), 2, 3, 6), 1, 1, 7), first(4, 1))
}

// P14.2: EvSend is of the first entry, a flush of that line, of that core.
func TestSend(t *testing.T) {
	b := newBus(t)
	refuses(t, b, send(2), send(0))
	do(t, b, want(2), want(3), want(2))
	refuses(t, b, send(3), send(0), of(0, send(2)), of(2, send(2)), flushed(2))
	do(t, b, send(2))
	refuses(t, b, send(2))
	do(t, b, send(3), send(2))
	checkPending(t, b, "sent")
	refuses(t, b, send(2), send(3))
	checkLines(t, b, "sent", first(4, 1), first(4, 1))
	do(t, b, issue(0, 0, 0))
	refuses(t, b, send(0))
}

// P14.2: EvFlush answers the first flush of the line that is not answered, if the line was pushed since it was sent.
func TestFlush(t *testing.T) {
	b := newBus(t)
	refuses(t, b, flushed(2))
	do(t, b, push(2))
	refuses(t, b, flushed(2))
	do(t, b, want(2), push(2), send(2))
	refuses(t, b, flushed(2))
	do(t, b, push(3), push(1), push(0))
	refuses(t, b, flushed(2), flushed(3))
	do(t, b, push(2))
	refuses(t, b, flushed(3), of(0, flushed(2)), of(2, flushed(2)))
	do(t, b, flushed(2), fence())
	refuses(t, b, flushed(2))
}

// P14.2: one push answers all flushes that were sent ahead of it, of all cores, each once; those behind it wait for another one.
func TestFlushes(t *testing.T) {
	b := newBus(t)
	do(t, b, want(2), want(2), want(2), want(3), of(2, want(2)), of(2, want(2)), send(2), send(2), of(2, send(2)), push(2), push(2), send(2), of(2, send(2)), send(3))
	do(t, b, flushed(2), flushed(2), of(2, flushed(2)))
	refuses(t, b, flushed(2), of(2, flushed(2)), flushed(3), fence(), of(2, fence()))
	do(t, b, push(2), of(2, flushed(2)), of(2, fence()), flushed(2))
	refuses(t, b, fence(), flushed(2), of(2, flushed(2)))
	do(t, b, push(3), flushed(3), fence())
	for n := range 3 {
		refuses(t, b, of(n, flushed(2)), of(n, flushed(3)))
	}
}

// P14.2: a pushed line is kept as all see it then, that line alone; one that forgets is kept as zeros, and its push answers flushes too.
func TestPush(t *testing.T) {
	b := newBus(t)
	do(t, b, issue(2, 3, 5), issue(2, 4, 6), issue(3, 0, 7), issue(0, 0, 8))
	do(t, b, push(2))
	checkLines(t, b, "nothing to push", first(4, 1), first(4, 1))
	do(t, b, store(2, 3, 5), push(2))
	checkLines(t, b, "pushed", with(first(4, 1), 2, 3, 5), with(first(4, 1), 2, 3, 5))
	do(t, b, store(2, 4, 6), store(3, 0, 7), store(0, 0, 8), push(2))
	all := with(with(with(with(first(4, 1), 2, 3, 5), 2, 4, 6), 3, 0, 7), 0, 0, 8)
	checkLines(t, b, "pushed again", all, with(with(first(4, 1), 2, 3, 5), 2, 4, 6))
	do(t, b, push(0), push(1))
	checkLines(t, b, "lines that forget", all, with(with(first(4, 1), 2, 3, 5), 2, 4, 6))
	do(t, b, want(0), send(0), push(0), flushed(0))
	checkLines(t, b, "lines that forget", all, with(with(first(4, 1), 2, 3, 5), 2, 4, 6))
}

// P14.2: EvTell, EvHalt and EvTrap change nothing that is told.
func TestTellHalt(t *testing.T) {
	for _, e := range []api.Event{tell(), halt(), trap()} {
		b := newBus(t)
		do(t, b, issue(2, 3, 5), want(2))
		was := look(b)
		for _, v := range vals {
			do(t, b, of(0, is(api.EvTell, 0, 0, v)))
		}
		do(t, b, e)
		if now := look(b); !now.same(was) {
			t.Errorf("%+v: %+v; was %+v", e, now, was)
		}
	}
}

// P14.2: behind EvFail the lines are the kept ones, nothing is on its way, nobody is stopped.
func TestFail(t *testing.T) {
	b := newBus(t)
	do(t, b, issue(2, 3, 5), issue(2, 4, 6), issue(0, 0, 7), store(2, 3, 5), push(2), store(2, 4, 6), store(0, 0, 7), push(0))
	do(t, b, want(3), want(3), want(2), issue(1, 1, 8), send(3), send(3), of(2, issue(1, 1, 9)), of(0, want(1)), of(0, send(1)), halt(), of(2, trap()), push(3), fails())
	kept := with(first(4, 1), 2, 3, 5)
	checkLines(t, b, "failed", kept, kept)
	checkPending(t, b, "failed")
	refuses(t, b, flushed(3), of(0, flushed(1)), send(2), store(1, 1, 8), of(2, store(1, 1, 9)), own(1, 1, 8), of(2, own(1, 1, 9)))
	do(t, b, push(3), push(1))
	refuses(t, b, flushed(3), of(0, flushed(1)))
	for id := range 3 {
		do(t, b, of(id, fence()), of(id, tell()), of(id, load(1, 1, word(1, 1))), of(id, load(2, 4, word(2, 4))), of(id, load(0, 0, 0)))
	}
	do(t, b, want(3), send(3))
	refuses(t, b, flushed(3))
	do(t, b, push(3), flushed(3), fails(), fails())
	checkLines(t, b, "failed again", kept, kept)
}

// P14.2: a core whose power failed has just done nothing: no store of a locked operation follows.
func TestFailBehindRmw(t *testing.T) {
	b := newBus(t)
	do(t, b, rmw(2, 3, word(2, 3)), fails())
	refuses(t, b, store(2, 3, 5), store(2, 3, word(2, 3)))
	do(t, b, rmw(2, 3, word(2, 3)), store(2, 3, 5))
}
