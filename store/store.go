// Package store keeps what is held on a disk, state by state: each is written onward, into parts of the disk
// in which nothing is needed, and flushed, and only then a checkpoint leads to it.
package store

import (
	"silt/disk"
	"silt/tree"
)

// Store is a disk, and the state that is kept on it.
type Store struct {
	disk *disk.Disk
	kept state
	turn uint64 // of that state
}

// Format keeps what is held as the first state of a disk of noughts.
func Format(d *disk.Disk, held *tree.Tree) *Store {
	s := &Store{disk: d, kept: state{top: ref{place: partBlocks - 1}}}
	s.Keep(held)
	d.Write(lead{turn: s.turn - 1, top: s.kept.top}.piece())
	d.Begin()
	return s
}

// Open reads the state that is kept on a disk, if there is one.
func Open(d *disk.Disk) (*Store, *tree.Tree, bool) {
	l, ok := readLast(d)
	if !ok {
		return nil, nil, false
	}
	r := reading{disk: d}
	held, ok := r.read(l.top)
	s := &Store{disk: d, kept: r.state, turn: l.turn}
	if !ok || !s.goesOn(&r.taken) || !s.stands(held) {
		return nil, nil, false
	}
	return s, held, true
}

// Keep makes what is held the state that is kept, and cleans the disk if else there were little room behind it.
func (s *Store) Keep(held *tree.Tree) {
	p := newPlan(s.disk, &s.kept, held, false)
	if p.after.free() < leastFree {
		p = newPlan(s.disk, &s.kept, held, true)
	}
	s.carryOut(p)
}

// Clean keeps what is held, and writes onward what is left in parts in which little is needed, as long as by this more is free.
// Where something is moved all that leads there is too, so that it may cost as much as it gains: then it is left where it stands.
func (s *Store) Clean(held *tree.Tree) {
	s.Keep(held)
	for {
		p := newPlan(s.disk, &s.kept, held, true)
		if p.after.free() <= s.kept.free() {
			return
		}
		s.carryOut(p)
	}
}

// Live tells how many blocks are needed.
func (s *Store) Live() int { return checkpoints + s.kept.places.Len() }

// Free tells how many blocks stand in parts into which can be written onward.
func (s *Store) Free() int { return s.kept.free() }

// carryOut writes what is planned. Up to the last flush the disk leads to the state before.
func (s *Store) carryOut(p *plan) {
	for _, piece := range p.pieces {
		s.disk.Write(piece)
	}
	s.disk.Flush()
	if len(p.pieces) == 0 {
		return
	}
	s.turn++
	s.disk.Write(lead{turn: s.turn, top: p.after.top}.piece())
	s.disk.Flush()
	s.kept = p.after
}
