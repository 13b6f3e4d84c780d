package slots

import (
	"math/bits"

	"evenhanded/api"
)

const (
	wordBits = 64
	words    = (api.MaxTasks + wordBits - 1) / wordBits
)

// room is a set of slots below MaxTasks. A bit of some stands for a word of set that is not 0, so that the least slot
// is found by two looks, however many are taken ahead of it: one word of some is enough for all words of set.
type room struct {
	set  [words]uint64
	some uint64
}

func (r *room) least() (int, bool) {
	if r.some == 0 {
		return 0, false
	}
	word := bits.TrailingZeros64(r.some)
	return word*wordBits + bits.TrailingZeros64(r.set[word]), true
}

func (r *room) has(slot int) bool {
	return r.set[slot/wordBits]&bit(slot%wordBits) != 0
}

func (r *room) add(slot int) {
	word := slot / wordBits
	r.set[word] |= bit(slot % wordBits)
	r.some |= bit(word)
}

func (r *room) remove(slot int) {
	word := slot / wordBits
	r.set[word] &^= bit(slot % wordBits)
	if r.set[word] == 0 {
		r.some &^= bit(word)
	}
}

func bit(n int) uint64 { return 1 << n }
