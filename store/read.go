package store

import (
	"silt/api"
	"silt/disk"
	"silt/tree"
)

const lengthSize = 2

// mostRows is more than any table needs.
const mostRows = 8

// reading reads a state. It asks only what it must so as to come to an end:
// whether what it reads is what would be written for it is asked behind it.
type reading struct {
	disk  *disk.Disk
	state state
	taken [api.Blocks]bool
	turns [mostRows]int
	table []byte
}

// read tells what is held, if what is under the top is a state at all.
func (r *reading) read(top ref) (*tree.Tree, bool) {
	r.state.top = top
	if _, ok := r.gather(top); !ok {
		return nil, false
	}
	held := tree.New()
	f := fields{r.table}
	path := ""
	for {
		item, ok := r.entry(&f, path)
		if !ok {
			return nil, false
		}
		if item.Kind == tree.Nothing {
			return held, true
		}
		if !held.Add(item) {
			return nil, false
		}
		path = item.Path
	}
}

// take reads the block to which a ref leads. No two lead to one.
func (r *reading) take(at ref) (disk.Block, bool) {
	if at.place < partBlocks || at.place >= api.Blocks || r.taken[at.place] {
		return disk.Block{}, false
	}
	r.taken[at.place] = true
	return r.disk.At(at.place), true
}

// gather reads the table, as far as it stands under a ref, and tells how many rows of blocks stand below.
func (r *reading) gather(at ref) (below int, ok bool) {
	b, ok := r.take(at)
	if !ok {
		return 0, false
	}
	k := kind(b[0])
	switch k {
	case table:
		r.table = append(r.table, b[1:]...)
	case index:
		below, ok = r.gatherAll(fields{b[1:]})
	default:
		ok = false
	}
	if !ok || below >= mostRows {
		return 0, false
	}
	r.state.places.Put(roleOf(k, below, r.turns[below]), at.place)
	r.turns[below]++
	return below, true
}

// gatherAll gathers under the refs of an index block.
func (r *reading) gatherAll(refs fields) (below int, ok bool) {
	for len(refs.rest) >= refSize {
		at := refs.ref()
		if at == (ref{}) {
			break
		}
		if below, ok = r.gather(at); !ok {
			return 0, false
		}
	}
	return below + 1, true
}

// entry reads what the table says of an entry; path is the last one's. Behind the last entry it reads one of nothing.
func (r *reading) entry(f *fields, path string) (tree.Item, bool) {
	item := tree.Item{Kind: tree.Kind(f.number(1))}
	if item.Kind == tree.Nothing {
		return item, true
	}
	same := int(f.number(1))
	if same > len(path) {
		return item, false
	}
	item.Path = path[:same] + string(f.bytes(int(f.number(1))))
	if item.Kind == tree.Directory {
		return item, true
	}
	item.Number = int(f.number(1))
	if item.Kind == tree.Link {
		return item, true
	}
	return r.file(f, item)
}

// file reads the bytes of a file.
func (r *reading) file(f *fields, item tree.Item) (tree.Item, bool) {
	length := int(f.number(lengthSize))
	for turn := 0; len(item.Data) < length; turn++ {
		at := f.ref()
		b, ok := r.take(at)
		if !ok {
			return item, false
		}
		r.state.places.Put(roleOf(data, item.Number, turn), at.place)
		item.Data = append(item.Data, b[:]...)
	}
	item.Data = item.Data[:length]
	return item, true
}

// goesOn tells whether there is room for what comes next: enough parts in which nothing is needed,
// and nothing behind the top in its own part.
func (s *Store) goesOn(taken *[api.Blocks]bool) bool {
	for place := s.kept.top.place + 1; place%partBlocks != 0; place++ {
		if taken[place] {
			return false
		}
	}
	return s.kept.free() >= leastFree
}

// stands tells whether all that would be written for what is held stands there already, for then the top does:
// so every sum is asked, and the order of the entries, and what no call could have left.
func (s *Store) stands(held *tree.Tree) bool {
	return newPlan(s.disk, &s.kept, held, false).after.top == s.kept.top
}
