package bus

import "bellows/api"

// issue puts a store into the core's store buffer.
func (b *Bus) issue(e api.Event) bool {
	return b.put(e, storeOf(e))
}

// want puts a flush into the core's store buffer.
func (b *Bus) want(e api.Event) bool {
	return b.put(e, flushOf(e))
}

// put makes x the last entry of the core's store buffer.
func (b *Bus) put(e api.Event, x entry) bool {
	c := &b.cores[e.Core]
	if c.stopped {
		return false
	}
	c.put(x)
	return true
}

// load lets the core read what all see, as it has no store of its own there.
func (b *Bus) load(e api.Event) bool {
	c := &b.cores[e.Core]
	_, has := c.stores[spotOf(e)]
	return !c.stopped && !has && b.sees(e)
}

// own lets the core read its own last store.
func (b *Bus) own(e api.Event) bool {
	c := &b.cores[e.Core]
	x, has := c.stores[spotOf(e)]
	return !c.stopped && has && x.val == e.Val
}

// change lets the core read what all see, with nothing of its own on its way; a store there may follow.
func (b *Bus) change(e api.Event) bool {
	return b.fence(e) && b.sees(e)
}

// fence lets the core go on, with nothing of its own on its way.
func (b *Bus) fence(e api.Event) bool {
	c := &b.cores[e.Core]
	return !c.stopped && c.settled()
}

// tell lets the core tell anything.
func (b *Bus) tell(e api.Event) bool {
	return !b.cores[e.Core].stopped
}

// stop lets the core's program come to its end; what is in its store buffer still goes.
func (b *Bus) stop(e api.Event) bool {
	c := &b.cores[e.Core]
	if c.stopped {
		return false
	}
	c.stopped = true
	return true
}

// store lets all see a store: the first one of the core's store buffer, or that of its locked operation.
func (b *Bus) store(e api.Event) bool {
	c := &b.cores[e.Core]
	if !c.take(storeOf(e)) && !c.locks(spotOf(e)) {
		return false
	}
	b.lines[e.Line][e.Word] = e.Val
	return true
}

// send lets a flush leave the core's store buffer; the pushes that were ahead of it don't answer it.
func (b *Bus) send(e api.Event) bool {
	c := &b.cores[e.Core]
	if !c.take(flushOf(e)) {
		return false
	}
	c.sent[e.Line] = append(c.sent[e.Line], b.pushes[e.Line])
	return true
}

// answer ends the core's first flush of the line, if the line was pushed since.
func (b *Bus) answer(e api.Event) bool {
	c := &b.cores[e.Core]
	sent := c.sent[e.Line]
	if len(sent) == 0 || sent[0] == b.pushes[e.Line] {
		return false
	}
	c.sent[e.Line] = sent[1:]
	if len(sent) == 1 {
		delete(c.sent, e.Line)
	}
	return true
}

// push lets the line be kept as all see it, if it does not forget.
func (b *Bus) push(e api.Event) bool {
	if e.Line >= b.volatile {
		b.kept[e.Line] = b.lines[e.Line]
	}
	b.pushes[e.Line]++
	return true
}

// fail lets all begin anew, with what was kept.
func (b *Bus) fail(api.Event) bool {
	copy(b.lines, b.kept)
	b.cores = newCores(len(b.cores))
	return true
}

// sees tells whether what e read is what all see.
func (b *Bus) sees(e api.Event) bool {
	return b.lines[e.Line][e.Word] == e.Val
}
