package store

import (
	"slices"

	"silt/api"
	"silt/disk"
	"silt/tree"
)

// plan is how one state follows another: which blocks are to be written, and where. Nothing is written yet.
type plan struct {
	disk   *disk.Disk
	before *state
	needed [parts]int // before
	clean  bool       // whether what is left in parts in which little is needed is written onward too
	head   int        // the place behind the last one that was given

	after  state
	pieces []disk.Piece
}

func newPlan(d *disk.Disk, before *state, held *tree.Tree, clean bool) *plan {
	p := &plan{disk: d, before: before, needed: before.needed(), clean: clean, head: before.top.place + 1}
	p.keep(held)
	return p
}

// keep gives all blocks of what is held their places: each behind those of which it says where they stand, and so the top last.
func (p *plan) keep(held *tree.Tree) {
	var says []byte
	last := ""
	for item := range held.All() {
		says = p.entry(says, last, item)
		last = item.Path
	}
	says = p.row(table, 0, append(says, byte(tree.Nothing)))
	for below := 1; len(says) > refSize; below++ {
		says = p.row(index, below, says)
	}
	top := fields{says}
	p.after.top = top.ref()
}

// entry writes what the table says of an entry. Of its path the table says what is other than in the last one.
func (p *plan) entry(says []byte, last string, item tree.Item) []byte {
	same := sameBytes(last, item.Path)
	says = append(says, byte(item.Kind), byte(same), byte(len(item.Path)-same))
	says = append(says, item.Path[same:]...)
	if item.Kind == tree.Directory {
		return says
	}
	says = append(says, byte(item.Number))
	if item.Kind == tree.Link {
		return says
	}
	says = appendNumber(says, uint64(len(item.Data)), lengthSize)
	turn := 0
	for bytes := range slices.Chunk(item.Data, api.Block) {
		var b disk.Block
		copy(b[:], bytes)
		says = p.put(roleOf(data, item.Number, turn), b).appendTo(says)
		turn++
	}
	return says
}

// sameBytes tells how many bytes two texts have alike, from their beginnings on.
func sameBytes(a string, b string) int {
	n := 0
	for n < min(len(a), len(b)) && a[n] == b[n] {
		n++
	}
	return n
}

// row gives bytes places, in blocks of a kind, and tells where these stand, as bytes again.
func (p *plan) row(k kind, below int, says []byte) []byte {
	size := room
	if k == index {
		size -= room % refSize // no ref is cut in two
	}
	var refs []byte
	turn := 0
	for bytes := range slices.Chunk(says, size) {
		refs = p.put(roleOf(k, below, turn), blockOf(k, bytes)).appendTo(refs)
		turn++
	}
	return refs
}

// put gives a block its place: the one where it stands already, if it may stay there, or else the next one onward.
func (p *plan) put(r role, b disk.Block) ref {
	place, there := p.before.places.Get(r)
	if !there || p.disk.At(place) != b || p.clean && p.isSparse(place) {
		place = p.next()
		p.pieces = append(p.pieces, disk.Piece{Place: place, Block: b})
	}
	p.after.places.Put(r, place)
	return ref{place: place, sum: sum(b[:])}
}

// isSparse tells whether a place stands in a part in which little is needed; not in the one that is being written.
func (p *plan) isSparse(place int) bool {
	part := place / partBlocks
	return part != p.before.top.place/partBlocks && p.needed[part] <= partBlocks/2
}

// next gives the place onward: in the part that is being written, or else in the next one in which nothing is needed.
func (p *plan) next() int {
	for p.head%partBlocks == 0 && p.needed[p.head/partBlocks%parts] > 0 {
		p.head += partBlocks
	}
	place := p.head % api.Blocks
	p.head = place + 1
	return place
}
