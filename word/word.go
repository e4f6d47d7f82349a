// Package word is layer 1: see shared/doc/01-word.md.
package word

import "bellows/api"

const (
	wordBytes = 8
	lineBytes = wordBytes * api.Words
)

// At tells the line and the word whose address is addr, in a memory of so many lines.
func At(lines int, addr uint64) (line, word int, e api.Errno) {
	if !within(lines, 1, api.MaxLines) {
		return 0, 0, api.ErrArg
	}
	if addr%wordBytes != 0 || addr/lineBytes >= uint64(lines) {
		return 0, 0, api.ErrAddr
	}
	return int(addr / lineBytes), int(addr % lineBytes / wordBytes), api.OK
}

// Addr tells the address of a word of a line; 0, if there is no such place.
func Addr(line, word int) uint64 {
	if !within(line, 0, api.MaxLines-1) || !isWord(word) {
		return 0
	}
	return lineBytes*uint64(line) + wordBytes*uint64(word)
}

// Put tells the line l with v as that word; l itself, if there is no such word.
func Put(l api.Line, word int, v uint64) api.Line {
	if isWord(word) {
		l[word] = v
	}
	return l
}

// Get tells that word of the line l; 0, if there is no such word.
func Get(l api.Line, word int) uint64 {
	if !isWord(word) {
		return 0
	}
	return l[word]
}

// Good tells whether a machine may have the shape c.
func Good(c api.Config) bool {
	return within(c.Cores, 1, api.MaxCores) &&
		within(c.Lines, 2, api.MaxLines) &&
		within(c.Volatile, 1, c.Lines-1) &&
		isSets(c.Sets) &&
		within(c.Ways, 1, api.MaxWays) &&
		within(c.Queue, 1, api.MaxQueue) &&
		within(c.Store, 1, api.MaxStore)
}

func isWord(word int) bool {
	return within(word, 0, api.Words-1)
}

func isSets(sets int) bool {
	switch sets {
	case 1, 2, 4, 8:
		return true
	}
	return false
}

func within(n, least, most int) bool {
	return least <= n && n <= most
}
