package store

import (
	"silt/api"
	"silt/ordered"
)

// The disk is cut into parts. The first one has the checkpoints, at its first places, and nothing else;
// each of the others is written from front to back, and then not again until nothing in it is needed.
const (
	partBlocks  = 16
	parts       = api.Blocks / partBlocks
	checkpoints = 2
)

// leastFree is how many blocks stand, at the least, in parts in which nothing is needed, whatever is kept:
// more than twice as many as all the blocks of a state, so that the next state always has room.
const leastFree = (api.Blocks + 2) / 3

// state is where the blocks stand of what is kept.
type state struct {
	places ordered.Map[role, int]
	top    ref // the block that leads to all others; of all it was written last
}

// needed tells how many blocks of each part are needed.
func (s *state) needed() [parts]int {
	needed := [parts]int{checkpoints}
	for _, place := range s.places.All() {
		needed[place/partBlocks]++
	}
	return needed
}

// free tells how many blocks stand in parts in which nothing is needed.
func (s *state) free() int {
	free := 0
	for _, n := range s.needed() {
		if n == 0 {
			free += partBlocks
		}
	}
	return free
}
