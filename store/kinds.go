package store

import (
	"silt/api"
	"silt/disk"
)

// kind is what a block is. All but data blocks begin with their kind.
type kind byte

// nothing is the first of them, so that a block of noughts is none of the others.
const (
	nothing    kind = iota
	checkpoint      // where the top of a state stands; at two places of its own
	index           // where blocks of the table, or of the index below, stand
	table           // the entries, and where the bytes of their files stand
	data            // bytes of a file
)

const room = api.Block - 1 // bytes of a block behind its kind

// blockOf makes a block of a kind; what it says is at most room bytes.
func blockOf(k kind, says []byte) disk.Block {
	b := disk.Block{byte(k)}
	copy(b[1:], says)
	return b
}

// role is what a block is for. From one state to the next the block of a role stays where it stands, as long as it is the same.
type role uint64

// roleOf makes the role of a block from its kind and its turn among others: for data those of the file of that number,
// else those of its row, of which the number tells how many rows stand below.
func roleOf(k kind, number int, turn int) role {
	return role(k)<<32 | role(number)<<16 | role(turn)
}

// ref says where a block stands, and the sum of its bytes.
type ref struct {
	place int
	sum   uint64
}

const (
	placeSize = 2
	sumSize   = 8
	refSize   = placeSize + sumSize
)

// appendTo writes a ref behind bytes.
func (r ref) appendTo(bytes []byte) []byte {
	return appendNumber(appendNumber(bytes, uint64(r.place), placeSize), r.sum, sumSize)
}

// ref reads what appendTo wrote.
func (f *fields) ref() ref {
	return ref{place: int(f.number(placeSize)), sum: f.number(sumSize)}
}
