package core

import (
	"sync"

	"bellows/api"
	"bellows/isa"
)

// step is a word of a program.
type step struct {
	word uint64
	once sync.Once // a loop comes by a word often, and reads it once
	ins  api.Ins
	good bool // is the word that of an instruction?
}

// stepsOf tells the steps of prog; none is read yet.
func stepsOf(prog []uint64) []step {
	steps := make([]step, len(prog))
	for n, u := range prog {
		steps[n].word = u
	}
	return steps
}

// instruction tells the step's instruction; false, if its word is none.
func (s *step) instruction() (api.Ins, bool) {
	s.once.Do(s.decode)
	return s.ins, s.good
}

// decode reads the step's word.
func (s *step) decode() {
	i, e := isa.Decode(s.word)
	s.ins, s.good = i, e == api.OK
}
