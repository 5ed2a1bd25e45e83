package store

import (
	"fmt"
	"math/rand"
	"slices"
	"strings"
	"testing"

	"silt/api"
	"silt/disk"
	"silt/tree"
)

// told tells all that a Tree holds, with the numbers of its files.
func told(held *tree.Tree) string {
	var all strings.Builder
	for item := range held.All() {
		fmt.Fprintf(&all, "%d %s %d %q\n", item.Kind, item.Path, item.Number, item.Data)
	}
	return all.String()
}

// opens: what is opened must be what was kept, and stand where it did.
func opens(t *testing.T, s *Store, held *tree.Tree) {
	t.Helper()
	d, _ := disk.Of(s.disk.Image())
	again, read, ok := Open(d)
	if !ok || told(read) != told(held) {
		t.Fatalf("opened: %v, want what was kept", ok)
	}
	if again.turn != s.turn || again.kept.top != s.kept.top || !slices.Equal(places(again), places(s)) {
		t.Fatal("opened: stands elsewhere")
	}
}

// places tells the roles of all blocks, and where they stand.
func places(s *Store) []uint64 {
	var all []uint64
	for r, place := range s.kept.places.All() {
		all = append(all, uint64(r), uint64(place))
	}
	return all
}

// full: eight files of 20 blocks, which is Capacity.
func full() *tree.Tree {
	held := tree.New()
	for i := range 8 {
		held.Write(fmt.Sprint("/f", i), 0, slices.Repeat([]byte{byte(i + 1)}, api.MaxFile))
	}
	return held
}

// largest has as many nodes and entries and bytes as may be, and as long names.
func largest(t *testing.T) *tree.Tree {
	held := tree.New()
	long := func(turn int) string { return fmt.Sprintf("/%c%011d", 'a'+turn, turn) }
	for node := range 59 {
		e := held.Write(long(node%5)+long(node/5), 0, make([]byte, 2*api.Block))
		if node < 5 {
			e = held.Mkdir(long(node))
		}
		if e != api.OK {
			t.Fatalf("node %d: %d", node, e)
		}
	}
	for i := range 4 {
		if e := held.Cut(long(0)+long(1+i), 15*api.Block); e != api.OK {
			t.Fatalf("file %d: %d", i, e)
		}
	}
	for entry := 59; entry < 100; entry++ {
		if e := held.Link(long(0)+long(1), long(entry%5)+long(entry/5)); e != api.OK {
			t.Fatalf("entry %d: %d", entry, e)
		}
	}
	if held.Usage() != api.Capacity || held.Mkdir("/n") != api.ErrMany || held.Link(long(0)+long(1), "/n") != api.ErrMany {
		t.Fatal("there may be more")
	}
	return held
}

// TestLargest: the blocks of two states are together less than what is free at the least.
func TestLargest(t *testing.T) {
	held := largest(t)
	s := Format(disk.New(), held)
	opens(t, s, held)
	if n := s.kept.places.Len(); n > 230 || 2*n > leastFree {
		t.Errorf("%d blocks", n)
	}
}

func TestFormat(t *testing.T) {
	for _, held := range []*tree.Tree{tree.New(), full()} {
		d := disk.New()
		s := Format(d, held)
		opens(t, s, held)
		if d.Epochs() != 0 || d.Writes(0) != 0 {
			t.Errorf("%d epochs, %d blocks", d.Epochs(), d.Writes(0))
		}
	}
}

// TestSame: what stands there already is not written again.
func TestSame(t *testing.T) {
	held := full()
	s := Format(disk.New(), held)
	s.Keep(held)
	if n := s.disk.Epochs(); n != 1 || s.disk.Writes(0) != 0 {
		t.Errorf("nothing is new: %d epochs, %d blocks written", n, s.disk.Writes(0))
	}
	held.Write("/f3", 5*api.Block, []byte("new"))
	head := s.kept.top.place + 1
	s.Keep(held)
	if got, _ := s.kept.places.Get(roleOf(data, 3, 5)); got != head {
		t.Errorf("the new block stands at %d, want %d", got, head)
	}
	// The table has 8 entries of some 6 bytes and 160 refs: 27 blocks, above which there are 5, and one.
	if n := s.disk.Epochs(); n != 3 || s.disk.Writes(1) != 4 || s.disk.Writes(2) != 1 {
		t.Errorf("one block is new: %d epochs, %d and %d blocks written", n, s.disk.Writes(1), s.disk.Writes(2))
	}
	opens(t, s, held)
	again, read, _ := Open(s.disk)
	again.Keep(read)
	if n := s.disk.Writes(3); n != 0 {
		t.Errorf("opened, nothing is new: %d blocks written", n)
	}
}

// TestOnward: each block is written behind the one that was written before it, but for the turn from the disk's end to its beginning.
func TestOnward(t *testing.T) {
	r := rand.New(rand.NewSource(1))
	held := full()
	s := Format(disk.New(), held)
	at, turns := s.kept.top.place, 0
	for range 300 {
		held.Write(fmt.Sprint("/f", r.Intn(8)), r.Intn(900), slices.Repeat([]byte{byte(r.Intn(256))}, r.Intn(300)))
		p := newPlan(s.disk, &s.kept, held, false)
		needed := s.kept.needed()
		for _, piece := range p.pieces {
			if piece.Place < at {
				turns++
			}
			if part := piece.Place / partBlocks; needed[part] > 0 && part != s.kept.top.place/partBlocks {
				t.Fatalf("the place %d is in a part in which something is needed", piece.Place)
			}
			at = piece.Place
		}
		s.Keep(held)
		at = s.kept.top.place
	}
	if turns == 0 || turns > 30 {
		t.Errorf("%d turns to the beginning", turns)
	}
}

// life goes on randomly with what is held.
func life(r *rand.Rand, held *tree.Tree) {
	for range 1 + r.Intn(4) {
		p := fmt.Sprintf("/f%d", r.Intn(10))
		if r.Intn(3) == 0 {
			held.Mkdir("/d")
			p = "/d" + p
		}
		switch r.Intn(9) {
		case 0:
			held.Remove(p)
		case 1:
			held.Cut(p, r.Intn(api.MaxFile+1))
		case 2:
			held.Link(p, fmt.Sprintf("/l%d", r.Intn(9)))
		case 3:
			held.Move(p, fmt.Sprintf("/l%d", r.Intn(9)))
		case 4:
			held.Remove(fmt.Sprintf("/l%d", r.Intn(9)))
		default:
			data := make([]byte, r.Intn(600))
			r.Read(data)
			held.Write(p, r.Intn(api.MaxFile-len(data)), data)
		}
	}
}

// TestNeeded: as long as a state is kept, nothing of it is written over, and there is room for the next one.
func TestNeeded(t *testing.T) {
	for seed := range 6 {
		r := rand.New(rand.NewSource(int64(seed)))
		held := tree.New()
		s := Format(disk.New(), held)
		for range 400 {
			life(r, held)
			before, _ := disk.Of(s.disk.Image())
			kept := s.kept
			s.Keep(held)
			for _, place := range kept.places.All() {
				if before.At(place) != s.disk.At(place) {
					t.Fatalf("the place %d was needed", place)
				}
			}
			if free := s.kept.free(); free < leastFree {
				t.Fatalf("%d blocks are free", free)
			}
		}
		opens(t, s, held)
	}
}

// TestCleaned: states of which each leaves little behind it, in as many parts as may be.
func TestCleaned(t *testing.T) {
	held := full()
	s := Format(disk.New(), held)
	least, cleaned := api.Blocks, 0
	for turn := range 2000 {
		// One block that stays for long, and others that the next turn writes again.
		stays := turn % 140
		held.Write(fmt.Sprint("/f", stays/20), stays%20*api.Block, []byte{byte(turn), byte(turn >> 8)})
		for i := range 12 {
			held.Write("/f7", i*api.Block, []byte{byte(turn), byte(turn >> 8)})
		}
		before := s.kept.free()
		s.Keep(held)
		free := s.kept.free()
		least = min(least, free)
		if free > before+2*partBlocks {
			cleaned++
		}
		if turn%50 == 0 {
			opens(t, s, held)
		}
	}
	if least < leastFree || least > leastFree+8*partBlocks || cleaned < 5 || cleaned > 500 {
		t.Errorf("at the least %d blocks were free, %d times the disk was cleaned", least, cleaned)
	}
}

// TestCleanedParts: cleaning moves what is left in parts in which little is needed, and nothing else but what leads there.
func TestCleanedParts(t *testing.T) {
	held := full()
	s := Format(disk.New(), held)
	if n := len(newPlan(s.disk, &s.kept, held, true).pieces); n != 0 {
		t.Fatalf("nothing is to be cleaned, and %d blocks are written", n)
	}
	// The first ten parts of data: of each one block more is new.
	for part := range 10 {
		for i := range part + 1 {
			block := part*partBlocks + i
			held.Write(fmt.Sprint("/f", block/20), block%20*api.Block, []byte("new"))
		}
	}
	s.Keep(held)
	needed := s.kept.needed()
	p := newPlan(s.disk, &s.kept, held, true)
	moved := 0
	for r, place := range s.kept.places.All() {
		if kind(r>>32) != data {
			continue
		}
		now, _ := p.after.places.Get(r)
		n := needed[place/partBlocks]
		if n <= partBlocks/2 && now == place && place/partBlocks != s.kept.top.place/partBlocks || n > partBlocks/2 && now != place {
			t.Errorf("of the part of %d %d blocks are needed, and now it stands at %d", place, n, now)
		}
		if now != place {
			moved++
		}
	}
	if moved != 8+7+6 {
		t.Errorf("%d blocks are moved", moved)
	}
}

// TestCleanedFar: where each part has just as much as is still not little, or one block less, cleaning makes room.
func TestCleanedFar(t *testing.T) {
	for _, stay := range []int{partBlocks / 2, partBlocks/2 + 1} {
		held := full()
		s := Format(disk.New(), held)
		for turn := range 600 {
			for i := range stay {
				block := (turn*stay + i) % 160
				held.Write(fmt.Sprint("/f", block/20), block%20*api.Block, []byte{byte(turn), byte(turn >> 8)})
			}
			s.Keep(held)
			if free := s.kept.free(); free < leastFree {
				t.Fatalf("%d of %d stay: %d blocks are free", stay, partBlocks, free)
			}
		}
		opens(t, s, held)
	}
}

// TestClean: what is kept already is written only where by this more is free, and not again.
func TestClean(t *testing.T) {
	moved := 0
	for seed := range 6 {
		r := rand.New(rand.NewSource(int64(seed)))
		held := tree.New()
		s := Format(disk.New(), held)
		for turn := range 150 {
			life(r, held)
			s.Keep(held)
			if turn%5 > 0 {
				continue
			}
			free, from := s.Free(), s.disk.Epochs()
			s.Clean(held)
			opens(t, s, held)
			written := 0
			for epoch := from; epoch < s.disk.Epochs(); epoch++ {
				written += s.disk.Writes(epoch)
			}
			moved += written
			if s.Free() < free || (s.Free() > free) != (written > 0) {
				t.Fatalf("%d blocks are written, %d are free, and %d were", written, s.Free(), free)
			}
			again := s.disk.Epochs()
			s.Clean(held)
			if s.disk.Epochs() != again+1 || s.disk.Writes(again) != 0 {
				t.Fatal("cleaned again at once")
			}
		}
	}
	if moved == 0 {
		t.Error("nothing was cleaned")
	}
}

// TestCleanSparse: behind it there are so few parts in which something is left that no more can be gained.
func TestCleanSparse(t *testing.T) {
	held := full()
	s := Format(disk.New(), held)
	for turn := range 100 {
		held.Write(fmt.Sprint("/f", turn/20), turn%20*api.Block, []byte("new"))
		held.Write("/f7", 0, []byte{byte(turn)})
		s.Keep(held)
	}
	before := s.Free()
	s.Clean(held)
	opens(t, s, held)
	// All blocks of the state fill 13 parts; twice as many would be half empty.
	if used := api.Blocks - s.Free(); before > api.Blocks*2/3 || used > 26*partBlocks {
		t.Errorf("%d blocks are free, %d were", s.Free(), before)
	}
}

// TestFree: whatever stands in parts that are free, the state is the same, and so is the next one.
func TestFree(t *testing.T) {
	r := rand.New(rand.NewSource(1))
	held := full()
	s := Format(disk.New(), held)
	for range 60 {
		life(r, held)
		s.Keep(held)
	}
	d, _ := disk.Of(s.disk.Image())
	spoilt := 0
	for part, n := range s.kept.needed() {
		for place := part * partBlocks; n == 0 && place < (part+1)*partBlocks; place++ {
			b := disk.Block{}
			r.Read(b[:])
			d.Write(disk.Piece{Place: place, Block: b})
			spoilt++
		}
	}
	other, read, ok := Open(d)
	if !ok || told(read) != told(held) || other.Free() != s.Free() || spoilt != s.Free() || other.Live() != s.Live() {
		t.Fatalf("opened: %v, %d blocks were spoilt, %d are free", ok, spoilt, s.Free())
	}
	life(r, held)
	other.Keep(held)
	opens(t, other, held)
}

// TestEveryLead: of a checkpoint no byte can be any other.
func TestEveryLead(t *testing.T) {
	held := full()
	s := Format(disk.New(), held)
	held.Remove("/f1")
	s.Clean(held)
	for i := range checkpoints * api.Block {
		place, was := i/api.Block, s.disk.At(i/api.Block)
		for by := 1; by < 256; by++ {
			b := was
			b[i%api.Block] ^= byte(by)
			s.disk.Write(disk.Piece{Place: place, Block: b})
			if _, _, ok := Open(s.disk); ok {
				t.Fatalf("byte %d changed by %d is opened", i, by)
			}
		}
		s.disk.Write(disk.Piece{Place: place, Block: was})
	}
	opens(t, s, held)
}

// TestEveryByte: of what is needed no byte can be changed unseen, and what is not needed is not asked for.
func TestEveryByte(t *testing.T) {
	held := tree.New()
	held.Mkdir("/d")
	for i := range 9 {
		held.Write(fmt.Sprint("/d/f", i), 0, slices.Repeat([]byte{byte(i)}, 200))
	}
	held.Link("/d/f1", "/l")
	s := Format(disk.New(), held)
	s.Keep(held)
	held.Write("/d/f2", 70, []byte("new"))
	s.Keep(held)
	needed := [api.Blocks]bool{true, true}
	for _, place := range s.kept.places.All() {
		needed[place] = true
	}
	image := s.disk.Image()
	for place, need := range needed {
		step := 1
		if !need {
			step = 50
		}
		for i := place * api.Block; i < (place+1)*api.Block; i += step {
			by := byte(1) << (i % 8)
			image[i] ^= by
			d, _ := disk.Of(image)
			_, read, ok := Open(d)
			if ok == need || ok && told(read) != told(held) {
				t.Fatalf("the byte %d of block %d: opened %v", i%api.Block, place, ok)
			}
			image[i] ^= by
		}
	}
}

// TestSum: as it is known elsewhere.
func TestSum(t *testing.T) {
	for text, want := range map[string]uint64{"": 0xcbf29ce484222325, "a": 0xaf63dc4c8601ec8c, "foobar": 0x85944171f73967e8} {
		if got := sum([]byte(text)); got != want {
			t.Errorf("%q: %x, want %x", text, got, want)
		}
	}
}
