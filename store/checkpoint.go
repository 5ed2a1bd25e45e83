package store

import (
	"silt/api"
	"silt/disk"
)

const mark = "silt"

const turnSize = 8

// lead is what a checkpoint says: where the top of a state stands, and which state in turn it is.
// States of even turns have one place, those of odd turns the other, so that the checkpoint
// of the state before stands until the new one is written whole.
type lead struct {
	turn uint64
	top  ref
}

// piece is the checkpoint as it is written. Its last bytes are the sum of the others.
func (l lead) piece() disk.Piece {
	says := appendNumber([]byte(mark), l.turn, turnSize)
	b := blockOf(checkpoint, l.top.appendTo(says))
	const ahead = api.Block - sumSize
	copy(b[ahead:], appendNumber(nil, sum(b[:ahead]), sumSize))
	return disk.Piece{Place: int(l.turn % checkpoints), Block: b}
}

// readCheckpoint tells what the checkpoint at a place says, and whether it is one.
func readCheckpoint(d *disk.Disk, place int) (lead, bool) {
	b := d.At(place)
	f := fields{b[1+len(mark):]}
	l := lead{turn: f.number(turnSize), top: f.ref()}
	return l, l.piece() == disk.Piece{Place: place, Block: b}
}

// readLast tells what the newer checkpoint says. The older one must be there too: a block is written whole or not at all,
// so that one which is not as it was written has been changed since, and might have been the newer one.
func readLast(d *disk.Disk) (lead, bool) {
	even, evenOK := readCheckpoint(d, 0)
	odd, oddOK := readCheckpoint(d, 1)
	switch {
	case !evenOK || !oddOK:
		return lead{}, false
	case even.turn == odd.turn+1:
		return even, true
	case odd.turn == even.turn+1:
		return odd, true
	}
	return lead{}, false
}
