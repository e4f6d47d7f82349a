package mesi

import (
	"bellows/api"
	"bellows/msg"
)

// queue is messages between a core and the L2, the first one first.
type queue struct {
	front msg.Queue
	// behind is what came when the front was full. What is asked, answered or sent can't be asked for again, so it always fits.
	behind []api.Msg
}

// ask makes m the last message; ErrFull, if there is no room in front.
func (q *queue) ask(m api.Msg) api.Errno {
	return q.front.Push(m)
}

// send makes these the last messages.
func (q *queue) send(messages ...api.Msg) {
	for _, m := range messages {
		if q.front.Push(m) != api.OK {
			q.behind = append(q.behind, m)
		}
	}
}

// head tells the first message; false, if there is none.
func (q *queue) head() (api.Msg, bool) {
	return q.front.Head()
}

// pop tells the first message and takes it out; false, if there is none.
func (q *queue) pop() (api.Msg, bool) {
	m, ok := q.front.Pop()
	if len(q.behind) > 0 { // the front stays full as long as anything is behind it
		q.front.Push(q.behind[0])
		q.behind = q.behind[1:]
	}
	return m, ok
}

// all tells the messages, the first one first.
func (q *queue) all() []api.Msg {
	return append(q.front.All(), q.behind...)
}
