package msg_test

import (
	"math"
	"slices"
	"testing"

	"bellows/api"
	"bellows/msg"
)

// noKinds are numbers of no kind; some come to good ones where bits are lost.
var noKinds = []int{math.MinInt, math.MinInt + 1, math.MinInt + 7, -1 << 32, -1<<32 + 3, -256, -255, -249, -14, -7, -2, -1, 0, 15, 16, 17, 31, 255, 256, 257, 263, 1 << 31, 1 << 32, 1<<32 + 1, 1<<32 + 7, math.MaxInt - 1, math.MaxInt}

// noLines are numbers of no line; some come to good ones where bits are lost.
var noLines = []int{math.MinInt, math.MinInt + 1, -1 << 32, -1<<32 + 3, -256, -65, -64, -63, -2, -1, 64, 65, 127, 128, 256, 1 << 31, 1 << 32, 1<<32 + 1, math.MaxInt - 1, math.MaxInt}

// forms is what each kind may have together, by the kind's number as the given package has it: d is Dirty, k Kept, w words.
func forms() map[int][]string {
	return map[int][]string{
		1:  {""},
		2:  {""},
		3:  {"", "d", "dw"},
		4:  {""},
		5:  {""},
		6:  {"", "d", "dw"},
		7:  {"", "d", "dw", "k", "dk", "dkw"},
		8:  {"", "w"},
		9:  {"", "w"},
		10: {"", "w"},
		11: {""},
		12: {""},
		13: {""},
		14: {""},
	}
}

// together is all that messages may have together, of any kind.
var together = []string{"", "d", "k", "w", "dk", "dw", "kw", "dkw"}

// of makes the message of that kind and line that has what the letters say.
func of(kind, line int, letters string, words api.Line) api.Msg {
	m := api.Msg{Kind: kind, Line: line}
	for _, letter := range letters {
		switch letter {
		case 'd':
			m.Dirty = true
		case 'k':
			m.Kept = true
		case 'w':
			m.Data = words
		}
	}
	return m
}

// someWords are lines of which not all words are 0: each word alone, in its least bit, its greatest, and one between, and all of them.
func someWords() []api.Line {
	all := []api.Line{{1, 2, 3, 4, 5, 6, 7, 8}}
	for w := range api.Words {
		for _, v := range []uint64{1, 1 << 32, 1 << 63, math.MaxUint64} {
			var l api.Line
			l[w] = v
			all = append(all, l)
		}
	}
	return all
}

func checkGood(t *testing.T, m api.Msg, want bool) {
	t.Helper()
	if got := msg.Good(m); got != want {
		t.Errorf("Good(%+v): %v; want %v", m, got, want)
	}
}

// P6.1: of each kind what it may have, and all else, on the first line, the last one and those between.
func TestGoodEveryForm(t *testing.T) {
	for kind, good := range forms() {
		for line := range 64 {
			for _, letters := range together {
				want := slices.Contains(good, letters)
				for _, words := range someWords() {
					checkGood(t, of(kind, line, letters, words), want)
				}
			}
		}
	}
}

// P6.1: no message has a kind that there is not, whatever else it has.
func TestGoodNoKind(t *testing.T) {
	for _, kind := range noKinds {
		for _, line := range []int{-1, 0, 3, 63, 64} {
			for _, letters := range together {
				checkGood(t, of(kind, line, letters, api.Line{7: 1}), false)
			}
		}
	}
}

// P6.1: no message has a line that there is not, whatever else it has.
func TestGoodNoLine(t *testing.T) {
	for kind := range forms() {
		for _, line := range noLines {
			for _, letters := range together {
				checkGood(t, of(kind, line, letters, api.Line{7: 1}), false)
			}
		}
	}
}

// P6.1: the chapter's example, the same without Dirty, and the message that is zero.
func TestGoodExamples(t *testing.T) {
	checkGood(t, api.Msg{Kind: api.GetS, Line: 3, Dirty: true}, false)
	checkGood(t, api.Msg{Kind: api.GetS, Line: 3}, true)
	checkGood(t, api.Msg{}, false)
}

// P6.1: each kind is asked, answered or told, and one of these alone; what is no kind is none of them.
func TestAsksAnswersTells(t *testing.T) {
	asks := []int{1, 2, 3, 4, 5}
	answers := []int{6, 7}
	tells := []int{8, 9, 10, 11, 12, 13, 14}
	kinds := slices.Clone(noKinds)
	for kind := -300; kind <= 300; kind++ {
		kinds = append(kinds, kind)
	}
	for _, kind := range kinds {
		if got, want := msg.Asks(kind), slices.Contains(asks, kind); got != want {
			t.Errorf("Asks(%d): %v; want %v", kind, got, want)
		}
		if got, want := msg.Answers(kind), slices.Contains(answers, kind); got != want {
			t.Errorf("Answers(%d): %v; want %v", kind, got, want)
		}
		if got, want := msg.Tells(kind), slices.Contains(tells, kind); got != want {
			t.Errorf("Tells(%d): %v; want %v", kind, got, want)
		}
	}
}

// P6.1: the kinds by their names.
func TestKindsByName(t *testing.T) {
	for kind, want := range map[int]string{
		api.GetS: "asks", api.GetM: "asks", api.Put: "asks", api.Clean: "asks", api.Wipe: "asks",
		api.InvAck: "answers", api.DnAck: "answers",
		api.DataS: "tells", api.DataE: "tells", api.DataM: "tells", api.PutAck: "tells", api.Invl: "tells", api.Down: "tells", api.Done: "tells",
	} {
		var got string
		switch {
		case msg.Asks(kind):
			got = "asks"
		case msg.Answers(kind):
			got = "answers"
		case msg.Tells(kind):
			got = "tells"
		}
		if got != want {
			t.Errorf("kind %d %q; want %q", kind, got, want)
		}
	}
}
