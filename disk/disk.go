// Package disk is blocks that are written one by one, and flushed from time to time.
// It remembers all that was written, so as to tell what stands there if the power fails.
package disk

import (
	"slices"

	"silt/api"
)

// Block is what is written at once.
type Block [api.Block]byte

// Piece is a block, and the place where it stands or shall stand.
type Piece struct {
	Place int
	Block Block
}

// Disk is api.Blocks blocks.
type Disk struct {
	first   []Block // ahead of epoch 0
	now     []Block
	written []Piece // since then, in their order
	ends    []int   // of each epoch that was flushed: how much was written until then
}

// New makes a Disk of noughts.
func New() *Disk { return newDisk(make([]Block, api.Blocks)) }

// Of makes a Disk of its bytes, and tells whether they are as many as a disk has.
func Of(image []byte) (*Disk, bool) {
	if len(image) != api.Blocks*api.Block {
		return nil, false
	}
	blocks := make([]Block, api.Blocks)
	for i := range blocks {
		blocks[i] = Block(image[i*api.Block:])
	}
	return newDisk(blocks), true
}

func newDisk(blocks []Block) *Disk {
	d := &Disk{now: blocks}
	d.Begin()
	return d
}

// Begin forgets what was written and flushed so far: it was there at first.
func (d *Disk) Begin() {
	d.first = slices.Clone(d.now)
	d.written, d.ends = nil, nil
}

// At tells the block that stands at a place.
func (d *Disk) At(place int) Block { return d.now[place] }

// Write writes a block, which may be lost until the next Flush.
func (d *Disk) Write(p Piece) {
	d.now[p.Place] = p.Block
	d.written = append(d.written, p)
}

// Flush ends an epoch.
func (d *Disk) Flush() {
	d.ends = append(d.ends, len(d.written))
}

// Image tells all the bytes.
func (d *Disk) Image() []byte { return joined(d.now) }

// Epochs tells how many flushes there were.
func (d *Disk) Epochs() int { return len(d.ends) }

// Writes tells how many blocks were written in an epoch.
func (d *Disk) Writes(epoch int) int { return d.end(epoch) - d.start(epoch) }

// Broken tells all the bytes if the power fails in an epoch, and some of the blocks that were written in it are lost.
func (d *Disk) Broken(epoch int, lost []bool) []byte {
	start := d.start(epoch)
	blocks := slices.Clone(d.first)
	for i, p := range d.written[:d.end(epoch)] {
		if i >= start && i-start < len(lost) && lost[i-start] {
			continue
		}
		blocks[p.Place] = p.Block
	}
	return joined(blocks)
}

// start tells how much was written ahead of an epoch.
func (d *Disk) start(epoch int) int {
	if epoch <= 0 {
		return 0
	}
	return d.end(epoch - 1)
}

// end tells how much was written until the end of an epoch. The last one has not ended yet.
func (d *Disk) end(epoch int) int {
	switch {
	case epoch < 0:
		return 0
	case epoch < len(d.ends):
		return d.ends[epoch]
	}
	return len(d.written)
}

func joined(blocks []Block) []byte {
	image := make([]byte, 0, len(blocks)*api.Block)
	for _, b := range blocks {
		image = append(image, b[:]...)
	}
	return image
}
