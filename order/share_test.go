package order_test

import (
	"slices"
	"testing"

	"bellows/api"
	"bellows/order"
)

// mark is a line that no list of these tests has.
var mark = api.Line{77, 77, 77, 77, 77, 77, 77, 77}

// spoil writes over the lines, their spare room too.
func spoil(l []api.Line) {
	l = l[:cap(l)]
	for i := range l {
		l[i] = mark
	}
}

// tellers are what tells lines.
func tellers() []func(api.Config, []api.Line, []api.Event) ([]api.Line, api.Errno) {
	return []func(api.Config, []api.Line, []api.Event) ([]api.Line, api.Errno){order.Ends, order.Keeps}
}

// Rule 2: what is handed in is left as it was, its spare room too.
func TestChangesNothing(t *testing.T) {
	more := api.Event{Kind: 77, Core: 77, Line: 77, Word: 77, Val: 77}
	for _, l := range [][]api.Event{nil, allowed(), allowed()[:10], append(allowed(), api.Event{})} {
		keep, keepImg := append(slices.Clone(l), more, more), append(image(), mark, mark)
		have, img := slices.Clone(keep)[:len(l)], slices.Clone(keepImg)[:4]
		order.Check(shape, img, have)
		for _, tell := range tellers() {
			tell(shape, img, have)
		}
		if !slices.Equal(have[:len(keep)], keep) || !slices.Equal(img[:len(keepImg)], keepImg) {
			t.Errorf("%d events: what was handed in was changed", len(l))
		}
	}
}

// Rule 2: the lines that are told share nothing with the image, nor with those that are told another time.
func TestToldIsNew(t *testing.T) {
	for n := range len(allowed()) + 1 {
		l := allowed()[:n]
		for i, tell := range tellers() {
			img := image()
			want, _ := tell(shape, image(), l)
			one, _ := tell(shape, img, l)
			two, _ := tell(shape, img, l)
			other, _ := tellers()[1-i](shape, img, l)
			wantOther := slices.Clone(other)
			spoil(one)
			if !slices.Equal(two, want) || !slices.Equal(other, wantOther) || !slices.Equal(img, image()) {
				t.Errorf("%d events: what is told is shared", n)
			}
			spoil(img)
			if !slices.Equal(two, want) {
				t.Errorf("%d events: what is told changed with the image", n)
			}
		}
	}
}

// Rule 4: what is told does not hang on what was asked before.
func TestEachCallBeginsAnew(t *testing.T) {
	s := newStory(shape, image(), 5)
	for range 100 {
		s.step()
	}
	bad := append(slices.Clone(s.l), api.Event{})
	for range 5 {
		checkNone(t, "a wrong event", shape, image(), bad, api.ErrState)
		checkNone(t, "a wrong image", shape, image()[:3], s.l, api.ErrArg)
		checkAt(t, "a wrong event", bad, len(s.l), api.ErrState)
		checkAt(t, "a story", s.l, len(s.l), api.OK)
		checkLines(t, "a story", shape, image(), s.l, s.seen, s.kept)
	}
}
