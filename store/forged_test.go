package store

import (
	"fmt"
	"math/rand"
	"slices"
	"testing"

	"silt/api"
	"silt/disk"
	"silt/tree"
)

// forged is a disk on which all sums are right, whatever it says.
type forged struct {
	*disk.Disk
	says []byte // the table
	top  ref
	head int // where the table is written
}

func newForged() *forged { return &forged{Disk: disk.New(), head: 5 * partBlocks} }

// entry: what the table says of an entry.
func (f *forged) entry(k tree.Kind, same int, rest string, more ...byte) *forged {
	f.says = append(f.says, byte(k), byte(same), byte(len(rest)))
	f.says = append(f.says, rest...)
	f.says = append(f.says, more...)
	return f
}

// block writes a block, and tells the ref that leads to it as bytes.
func (f *forged) block(place int, b disk.Block) []byte {
	f.Write(disk.Piece{Place: place, Block: b})
	return ref{place, sum(b[:])}.appendTo(nil)
}

// file: an entry of a file, of which the blocks stand at these places and are all of one byte.
func (f *forged) file(same int, rest string, number byte, length int, places ...int) *forged {
	f.entry(tree.File, same, rest, number, byte(length), byte(length>>8))
	for i, place := range places {
		var b disk.Block
		for k := range b[:min(api.Block, length-i*api.Block)] {
			b[k] = 'x'
		}
		f.says = append(f.says, f.block(place, b)...)
	}
	return f
}

// write writes a table as the program does.
func (f *forged) write() *forged {
	p := &plan{disk: f.Disk, before: &state{}, head: f.head}
	refs := p.row(table, 0, append(f.says, 0))
	for below := 1; len(refs) > refSize; below++ {
		refs = p.row(index, below, refs)
	}
	for _, piece := range p.pieces {
		f.Write(piece)
	}
	top := fields{refs}
	f.top = top.ref()
	return f.lead(1, 0)
}

// lead writes checkpoints of these turns.
func (f *forged) lead(turns ...uint64) *forged {
	for _, turn := range turns {
		f.Write(lead{turn, f.top}.piece())
	}
	return f
}

func (f *forged) opens() (string, bool) {
	_, held, ok := Open(f.Disk)
	if !ok {
		return "", false
	}
	return told(held), true
}

// TestForged: as long as it is what the program writes, it is opened.
func TestForged(t *testing.T) {
	if got, ok := newForged().write().opens(); !ok || got != "" {
		t.Errorf("an empty root: %v %s", ok, got)
	}
	f := newForged().entry(tree.Directory, 0, "/d").file(2, "/f", 7, 65, 1535, 16).entry(tree.Link, 4, "2", 7).file(1, "e", 0, 0).write()
	want := fmt.Sprintf("1 /d 0 \"\"\n2 /d/f 7 %q\n3 /d/f2 7 \"\"\n2 /e 0 \"\"\n", slices.Repeat([]byte{'x'}, 65))
	if got, ok := f.opens(); !ok || got != want {
		t.Errorf("%v %s", ok, got)
	}
}

// TestForgedTable: a table as no Volume has it.
func TestForgedTable(t *testing.T) {
	const dir, link = tree.Directory, tree.Link
	for name, f := range map[string]*forged{
		"no kind":                     newForged().entry(link+1, 0, "/a", 0),
		"a kind far off":              newForged().entry(255, 0, "/a"),
		"more alike than there is":    newForged().entry(dir, 1, "a"),
		"more alike than in the last": newForged().entry(dir, 0, "/a").entry(dir, 3, "b"),
		"less alike than there is":    newForged().entry(dir, 0, "/a").entry(dir, 0, "/b"),
		"not in order":                newForged().entry(dir, 0, "/b").entry(dir, 1, "a"),
		"twice":                       newForged().entry(dir, 0, "/b").entry(dir, 2, ""),
		"no path":                     newForged().entry(dir, 0, "a"),
		"no name":                     newForged().entry(dir, 0, "/A"),
		"the root":                    newForged().entry(dir, 0, "/"),
		"nothing":                     newForged().entry(dir, 0, ""),
		"in no directory":             newForged().entry(dir, 0, "/a/b"),
		"in a file":                   newForged().file(0, "/a", 0, 0).entry(dir, 2, "/b"),
		"a link of nothing":           newForged().entry(link, 0, "/a", 0),
		"a link ahead of the file":    newForged().entry(link, 0, "/a", 3).file(1, "b", 3, 0),
		"a link of another file":      newForged().file(0, "/a", 3, 0).entry(link, 1, "b", 4),
		"a number twice":              newForged().file(0, "/a", 3, 0).file(1, "b", 3, 0),
		"a number too high":           newForged().file(0, "/a", api.MaxNodes, 0),
		"too long":                    newForged().file(0, "/a", 0, api.MaxFile+1, 160, 161, 162, 163, 164, 165, 166, 167, 168, 169, 170, 171, 172, 173, 174, 175, 176, 177, 178, 179, 180),
		"a block too few":             newForged().file(0, "/a", 0, 65, 160),
		"a block too many":            newForged().file(0, "/a", 0, 64, 160, 161),
		"among the checkpoints":       newForged().file(0, "/a", 0, 64, 2),
		"a checkpoint":                newForged().file(0, "/a", 0, 64, 1),
		"last of the first part":      newForged().file(0, "/a", 0, 64, partBlocks-1),
		"a place twice":               newForged().file(0, "/a", 0, 65, 160, 160),
		"a place of two files":        newForged().file(0, "/a", 0, 64, 160).file(1, "b", 1, 64, 160),
		"the table's own place":       newForged().file(0, "/a", 0, 64, 5*partBlocks),
		"ahead of what is needed":     newForged().file(0, "/a", 0, 64, 5*partBlocks+1),
		"ahead of the part's end":     newForged().file(0, "/a", 0, 64, 6*partBlocks-1),
		"more behind the end":         newForged().entry(dir, 0, "/a").entry(0, 0, "", 1),
		"noughts behind the end":      newForged().entry(dir, 0, "/a", make([]byte, 60)...),
	} {
		if got, ok := f.write().opens(); ok {
			t.Errorf("%s is opened: %s", name, got)
		}
	}
}

// TestForgedLimits: a table that is just large enough is opened, and not one that is larger.
func TestForgedLimits(t *testing.T) {
	entries := func(n int) *forged {
		f := newForged().entry(tree.Directory, 0, "/a")
		for i := 1; i < n; i++ {
			f.entry(tree.Directory, 1, string(rune('a'+i)))
		}
		return f
	}
	// n directories, of which each fifth has four others in it.
	nodes := func(n int) *forged {
		f := newForged().entry(tree.Directory, 0, "/a")
		for i := 1; i < n; i++ {
			if i%5 == 0 {
				f.entry(tree.Directory, 1, string(rune('a'+i/5)))
			} else if i%5 == 1 {
				f.entry(tree.Directory, 2, "/1")
			} else {
				f.entry(tree.Directory, 3, fmt.Sprint(i%5))
			}
		}
		return f
	}
	// n entries in 5 directories, of one file but for the directories.
	links := func(n int) *forged {
		f := newForged().entry(tree.Directory, 0, "/a").file(2, "/a", 0, 0)
		for i := 2; i < n; i++ {
			if i%20 == 0 {
				f.entry(tree.Directory, 1, string(rune('a'+i/20)))
			} else if i%20 == 1 {
				f.entry(tree.Link, 2, "/a", 0)
			} else {
				f.entry(tree.Link, 3, string(rune('a'+i%20-1)), 0)
			}
		}
		return f
	}
	// files of 20 blocks, and one of what is left.
	usage := func(n int) *forged {
		f := newForged()
		for i := range (n + 19) / 20 {
			var places []int
			for k := range min(20, n-20*i) {
				places = append(places, 200+20*i+k)
			}
			same := min(i, 1)
			f.file(same, fmt.Sprint("/", i)[same:], byte(i), len(places)*api.Block, places...)
		}
		return f
	}
	for name, c := range map[string]struct {
		of   func(n int) *forged
		most int
	}{"entries": {entries, api.MaxEntries}, "nodes": {nodes, api.MaxNodes - 1}, "links": {links, api.MaxLinks}, "usage": {usage, api.Capacity}} {
		if _, ok := c.of(c.most).write().opens(); !ok {
			t.Errorf("%s: %d are not opened", name, c.most)
		}
		if _, ok := c.of(c.most + 1).write().opens(); ok {
			t.Errorf("%s: %d are opened", name, c.most+1)
		}
	}
}

// TestForgedRefs: refs that lead nowhere, or to another block than they say.
func TestForgedRefs(t *testing.T) {
	file := func(at ref) *forged {
		f := newForged()
		f.block(160, disk.Block{'x'})
		return f.entry(tree.File, 0, "/a", at.appendTo([]byte{0, 1, 0})...)
	}
	x, xy := disk.Block{'x'}, disk.Block{'x', 'y'}
	if _, ok := file(ref{160, sum(x[:])}).write().opens(); !ok {
		t.Error("a ref as it shall be is not opened")
	}
	for i, at := range []ref{{}, {160, 0}, {160, sum(x[:]) + 1}, {161, sum(x[:])}, {api.Blocks, sum(x[:])}, {65535, sum(x[:])}, {api.Blocks + 160, sum(x[:])}} {
		if got, ok := file(at).write().opens(); ok {
			t.Errorf("case %d is opened: %s", i, got)
		}
	}
	more := file(ref{160, sum(xy[:])})
	more.block(160, xy)
	if got, ok := more.write().opens(); ok {
		t.Errorf("bytes behind the file's last one are opened: %s", got)
	}
}

// TestForgedRows: tops that lead to no table, or not as they should.
func TestForgedRows(t *testing.T) {
	f := newForged()
	empty := f.block(80, blockOf(table, nil))
	long := f.block(81, blockOf(table, slices.Concat([]byte{1, 0, 2}, []byte("/a"), make([]byte, room-5))))
	above := func(place int, refs ...[]byte) []byte { return f.block(place, blockOf(index, slices.Concat(refs...))) }
	deep := empty
	for i := range 300 {
		deep = above(200+i, deep)
	}
	round := ref{place: 170}.appendTo(nil)
	for name, top := range map[string][]byte{
		"noughts":                   f.block(180, disk.Block{}),
		"a checkpoint":              f.block(181, lead{}.piece().Block),
		"data":                      f.block(182, blockOf(data, nil)),
		"no kind":                   f.block(183, blockOf(data+1, nil)),
		"an index of nothing":       above(184),
		"an index of one":           above(185, empty),
		"an index of two rows":      above(186, above(187, empty), long),
		"a block too many":          above(188, long, empty),
		"a gap":                     above(189, long, make([]byte, refSize), empty),
		"the same one twice":        above(190, long, long),
		"an index that is too deep": deep,
		"a ring":                    above(170, round),
		"the first place":           ref{}.appendTo(nil),
		"behind the disk":           ref{place: api.Blocks}.appendTo(nil),
		"another sum":               ref{place: 80, sum: 1}.appendTo(nil),
	} {
		at := fields{top}
		f.top = at.ref()
		if got, ok := f.lead(0, 1).opens(); ok {
			t.Errorf("%s is opened: %s", name, got)
		}
	}
	at := fields{empty}
	f.top = at.ref()
	if _, ok := f.lead(0, 1).opens(); !ok {
		t.Error("an empty table is not opened")
	}
}

// TestForgedRoom: a state that leaves too little room was never kept.
func TestForgedRoom(t *testing.T) {
	// Beside the data there are blocks in the first part, and in one more.
	const most = parts - leastFree/partBlocks - 2
	spread := func(n int) *forged {
		f := newForged()
		f.head = partBlocks
		for i := range (n + 19) / 20 {
			var places []int
			for k := range min(20, n-20*i) {
				places = append(places, (20*i+k+10)*partBlocks+3)
			}
			same := min(i, 1)
			f.file(same, fmt.Sprint("/", i)[same:], byte(i), len(places)*api.Block, places...)
		}
		return f.write()
	}
	if _, ok := spread(most).opens(); !ok {
		t.Errorf("%d parts are not opened", most)
	}
	for n := most + 1; n < most+4; n++ {
		if _, ok := spread(n).opens(); ok {
			t.Errorf("%d parts are opened", n)
		}
	}
}

// TestForgedLeads: checkpoints that were not written one behind the other.
func TestForgedLeads(t *testing.T) {
	f := newForged().write()
	for _, turns := range [][]uint64{{0, 1}, {2, 1}, {2, 3}, {1 << 40, 1<<40 + 1}, {1 << 40, 1<<40 - 1}} {
		if _, ok := f.lead(turns...).opens(); !ok {
			t.Errorf("the turns %d are not opened", turns)
		}
	}
	for _, turns := range [][]uint64{{0, 3}, {4, 1}, {1 << 40, 1}} {
		if _, ok := f.lead(turns...).opens(); ok {
			t.Errorf("the turns %d are opened", turns)
		}
	}
	even, odd := f.lead(2, 3).At(0), f.At(1)
	for i, both := range [][2]disk.Block{{even, even}, {odd, odd}, {odd, even}, {{}, odd}, {even, {}}, {{}, {}}} {
		f.Write(disk.Piece{Place: 0, Block: both[0]})
		f.Write(disk.Piece{Place: 1, Block: both[1]})
		if _, ok := f.opens(); ok {
			t.Errorf("case %d is opened", i)
		}
	}
}

// TestNewerLeads: of two checkpoints the one of the higher turn counts.
func TestNewerLeads(t *testing.T) {
	f := newForged().entry(tree.Directory, 0, "/old").write()
	old := f.top
	f.says, f.head = nil, 9*partBlocks
	f.entry(tree.Directory, 0, "/new").write()
	for _, turns := range [][2]uint64{{6, 7}, {7, 6}, {7, 8}, {8, 7}} {
		f.Write(lead{turns[0], old}.piece())
		f.Write(lead{turns[1], f.top}.piece())
		want := "1 /old 0 \"\"\n"
		if turns[1] > turns[0] {
			want = "1 /new 0 \"\"\n"
		}
		if got, ok := f.opens(); !ok || got != want {
			t.Errorf("the turns %d: %v %s", turns, ok, got)
		}
	}
}

// TestForgedRandom: whatever the table says, Open ends; and what it opens can be kept.
func TestForgedRandom(t *testing.T) {
	r := rand.New(rand.NewSource(1))
	ok := 0
	for range 4000 {
		f := newForged().entry(tree.Directory, 0, "/d").file(2, "/f", 7, 65, 160, 161).entry(tree.Link, 4, "2", 7).file(1, "e", 0, 0).file(1, "f", 3, 300, 170, 171, 172, 173, 174)
		for range 1 + r.Intn(3) {
			i := r.Intn(len(f.says))
			switch r.Intn(4) {
			case 0:
				f.says = slices.Delete(f.says, i, min(len(f.says), i+1+r.Intn(4)))
			case 1:
				f.says = slices.Insert(f.says, i, byte(r.Intn(5)))
			case 2:
				f.says[i] = byte(r.Intn(256))
			default:
				f.says[i] ^= 1 << r.Intn(8)
			}
		}
		s, held, is := Open(f.write().Disk)
		if !is {
			continue
		}
		ok++
		if held.Mkdir("/new") != api.OK {
			t.Fatal("Mkdir")
		}
		s.Keep(held)
		opens(t, s, held)
	}
	if ok < 20 || ok > 2000 {
		t.Errorf("%d were opened", ok)
	}
}
