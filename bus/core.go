package bus

import "bellows/api"

// core is what one core has on its way.
type core struct {
	buffer  []entry         // its store buffer, the first one first
	stores  map[spot]newest // of the words of which the store buffer has stores
	sent    map[int][]int   // of the lines of which flushes were sent and not answered: how many pushes of the line were ahead of each
	stopped bool
	last    api.Event // that named the core; at first none
}

// entry is a store or a flush in a store buffer.
type entry struct {
	flush bool // of a flush the line alone is there
	at    spot
	val   uint64
}

// spot is where a word is.
type spot struct{ line, word int }

// newest is how many stores of a word a store buffer has, and the value of the last one.
type newest struct {
	many int
	val  uint64
}

// newCores tells so many cores that have nothing on their way.
func newCores(many int) []core {
	l := make([]core, many)
	for id := range l {
		l[id].stores = map[spot]newest{}
		l[id].sent = map[int][]int{}
	}
	return l
}

// put makes x the last entry of the store buffer.
func (c *core) put(x entry) {
	c.buffer = append(c.buffer, x)
	if !x.flush {
		c.stores[x.at] = newest{many: c.stores[x.at].many + 1, val: x.val}
	}
}

// take takes x out of the store buffer, if it is the first entry.
func (c *core) take(x entry) bool {
	if len(c.buffer) == 0 || c.buffer[0] != x {
		return false
	}
	c.buffer = c.buffer[1:]
	if x.flush {
		return true
	}
	rest := c.stores[x.at]
	rest.many--
	c.stores[x.at] = rest
	if rest.many == 0 {
		delete(c.stores, x.at)
	}
	return true
}

// settled tells whether the store buffer is empty and all flushes are answered.
func (c *core) settled() bool {
	return len(c.buffer) == 0 && len(c.sent) == 0
}

// locks tells whether the core has just read the word by a locked operation.
func (c *core) locks(at spot) bool {
	return c.last.Kind == api.EvRmw && spotOf(c.last) == at
}

// storeOf is the store of which e tells.
func storeOf(e api.Event) entry {
	return entry{at: spotOf(e), val: e.Val}
}

// flushOf is the flush of which e tells.
func flushOf(e api.Event) entry {
	return entry{flush: true, at: spot{line: e.Line}}
}

// spotOf is where the word is of which e tells.
func spotOf(e api.Event) spot {
	return spot{e.Line, e.Word}
}
