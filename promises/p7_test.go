package promises

import (
	"fmt"
	"math/rand"
	"testing"

	"silt/api"
	"silt/silt"
)

// keepsBy: behind a call the disk holds what is held, which is what was held ahead of it, and something was flushed.
func keepsBy(t *testing.T, what string, v *silt.Volume, call func()) {
	t.Helper()
	before, epochs := state(t, v), v.Epochs()
	call()
	if got := state(t, v); got != before {
		t.Fatalf("%s changed what is held:\n%s\nwas\n%s", what, got, before)
	}
	if got := state(t, opened(t, v.Image())); got != before {
		t.Fatalf("%s: kept is\n%s\nwant\n%s", what, got, before)
	}
	if v.Epochs() <= epochs {
		t.Errorf("%s: %d flushes, and %d ahead of it", what, v.Epochs(), epochs)
	}
}

func keeps(t *testing.T, what string, v *silt.Volume) {
	t.Helper()
	what += ": Sync"
	keepsBy(t, what, v, func() { want(t, what, v.Sync(), api.OK) })
}

// cleans tells what Clean answers, which must be what Check tells, and behind it a third of the disk must be free.
func cleans(t *testing.T, what string, v *silt.Volume) int {
	t.Helper()
	what += ": Clean"
	ahead, n := checked(t, v.Image()), 0
	keepsBy(t, what, v, func() { n = v.Clean() })
	behind := checked(t, v.Image())
	if n != max(0, behind.Free-ahead.Free)*api.Block || behind.Free < api.Blocks/3 {
		t.Errorf("%s: it answers %d, and behind it there is %+v, ahead %+v", what, n, behind, ahead)
	}
	return n
}

func TestP7Sync(t *testing.T) {
	v := volume(t)
	keeps(t, "an empty root", v)
	keeps(t, "an empty root again", v)
	must(t, v.Mkdir("/a"))
	keeps(t, "a directory", v)
	must(t, v.Write("/a/f", 3, []byte("xyz")))
	keeps(t, "a file", v)
	must(t, v.Write("/a/g", 0, nil))
	keeps(t, "a file of nothing", v)
	must(t, v.Link("/a/f", "/g"))
	keeps(t, "a link", v)
	must(t, v.Cut("/g", 65))
	keeps(t, "a longer file", v)
	must(t, v.Cut("/g", 64))
	keeps(t, "a whole block", v)
	must(t, v.Move("/a", "/abcdefghijkl"))
	keeps(t, "a long name", v)
	must(t, v.Remove("/abcdefghijkl/f"))
	keeps(t, "a link less", v)
	must(t, v.Remove("/g"))
	keeps(t, "a file less", v)
	must(t, v.Remove("/abcdefghijkl/g"))
	must(t, v.Remove("/abcdefghijkl"))
	keeps(t, "an empty root at last", v)
}

// TestP7EverySize: files of all sizes up to two blocks, and around each block's end.
func TestP7EverySize(t *testing.T) {
	v := volume(t, "/f")
	for size := range api.MaxFile + 1 {
		if size > 130 && size%api.Block > 1 && size%api.Block < 63 {
			continue
		}
		data := make([]byte, size)
		for i := range data {
			data[i] = byte(i*7 + size)
		}
		must(t, v.Cut("/f", 0))
		must(t, v.Write("/f", 0, data))
		keeps(t, fmt.Sprint("size ", size), v)
	}
}

// atLimits: as much as may be, of each that is limited.
func atLimits(t *testing.T) map[string]*silt.Volume {
	t.Helper()
	all := map[string]*silt.Volume{"Capacity": fullDisk(t), "MaxNodes": fullDisk(t), "MaxLinks": fullDisk(t), "MaxDepth": volume(t), "files of two blocks": volume(t)}
	for _, name := range []string{"MaxNodes", "MaxLinks"} {
		v := all[name]
		for i := range 11 {
			must(t, v.Mkdir(fmt.Sprintf("/abcdefghijk%c", 'a'+i)))
		}
		for i := range api.MaxNodes - 1 - 8 - 11 {
			must(t, v.Write(fmt.Sprintf("/abcdefghijk%c/1234567890%d", 'a'+i%11, 10+i), 0, nil))
		}
		want(t, "one node more", v.Mkdir("/abcdefghijka/n"), api.ErrMany)
	}
	v := all["MaxLinks"]
	for i := range api.MaxLinks - (api.MaxNodes - 1) {
		must(t, v.Link("/b0", fmt.Sprintf("/abcdefghijk%c/x234567890%d", 'a'+i%11, 10+i)))
	}
	want(t, "one entry more", v.Link("/b0", "/abcdefghijka/n"), api.ErrMany)
	path := ""
	for i := range api.MaxDepth {
		path += fmt.Sprintf("/%d-_.bcdefgh0", i)
		if i < api.MaxDepth-1 {
			must(t, all["MaxDepth"].Mkdir(path))
		}
	}
	must(t, all["MaxDepth"].Write(path, 0, []byte("deep")))
	v = all["files of two blocks"]
	for i := range api.MaxNodes - 1 {
		if i%15 == 0 {
			must(t, v.Mkdir(fmt.Sprint("/d", i/15)))
			continue
		}
		must(t, v.Write(fmt.Sprintf("/d%d/f%d", i/15, i), 0, make([]byte, 2*api.Block)))
	}
	return all
}

func TestP7Limits(t *testing.T) {
	for name, v := range atLimits(t) {
		keeps(t, name, v)
	}
}

// TestP7Room: whatever is done, there is room: all is written again and again.
func TestP7Room(t *testing.T) {
	v := fullDisk(t)
	for turn := range 300 {
		for i := range 8 {
			data := make([]byte, api.MaxFile)
			for k := range data {
				data[k] = byte(k*(i+3) + turn)
			}
			must(t, v.Write(fmt.Sprint("/b", i), 0, data))
		}
		must(t, v.Sync())
		if turn%30 == 29 {
			keeps(t, fmt.Sprint("turn ", turn), v)
		}
	}
}

// TestP7RoomForLittle: many Syncs of which each changes a little, here and there, so that on the whole disk a little is needed.
func TestP7RoomForLittle(t *testing.T) {
	for _, few := range []int{1, 3, 7, 13, 40} {
		v := fullDisk(t)
		at := 0
		for turn := range 1500 / few {
			for range few {
				must(t, v.Write(fmt.Sprint("/b", at/20), at%20*api.Block, []byte{byte(turn), byte(turn >> 8)}))
				at = (at + 37) % api.Capacity
			}
			must(t, v.Sync())
			if turn%100 == 99 {
				keeps(t, fmt.Sprintf("%d, turn %d", few, turn), v)
			}
		}
		keeps(t, fmt.Sprint(few), v)
	}
}

// TestP7RoomScattered: many Syncs of which each leaves a little that is needed, wherever it wrote.
func TestP7RoomScattered(t *testing.T) {
	l := newLife(t, rand.New(rand.NewSource(1)), fullDisk(t))
	for turn := range 1000 {
		l.scatter(turn)
		must(t, l.v.Sync())
		if turn%50 == 49 {
			keeps(t, fmt.Sprint("turn ", turn), l.v)
		}
	}
}

// TestP7RoomAgain: each Sync is followed by an Open, which must know where there is room.
func TestP7RoomAgain(t *testing.T) {
	l := newLife(t, rand.New(rand.NewSource(1)), volume(t))
	for turn := range 400 {
		for range l.Intn(6) {
			l.turn(api.MaxFile)
		}
		want := state(t, l.v)
		must(t, l.v.Sync())
		l.v = opened(t, l.v.Image())
		if got := state(t, l.v); got != want {
			t.Fatalf("turn %d: it holds\n%s\nwant\n%s", turn, got, want)
		}
	}
}

// TestP7Clean: it keeps what is held, and answers what Check tells.
func TestP7Clean(t *testing.T) {
	v := volume(t)
	for _, what := range []string{"an empty root", "an empty root again"} {
		if n := cleans(t, what, v); n != 0 {
			t.Errorf("%s: Clean: %d", what, n)
		}
	}
	must(t, v.Mkdir("/a"))
	cleans(t, "a directory", v)
	must(t, v.Write("/a/f", 3, []byte("xyz")))
	must(t, v.Link("/a/f", "/g"))
	cleans(t, "a file of two links", v)
	must(t, v.Cut("/g", 65))
	must(t, v.Sync())
	cleans(t, "what is kept already", v)
	must(t, v.Remove("/a/f"))
	cleans(t, "a link less", v)
	must(t, v.Remove("/g"))
	must(t, v.Remove("/a"))
	cleans(t, "an empty root at last", v)
	keeps(t, "behind it", v)
}

// TestP7CleanAnswers: more, less, or as much is Free behind it, by what is kept.
func TestP7CleanAnswers(t *testing.T) {
	v := fullDisk(t)
	ahead := checked(t, v.Image()).Free
	if n := cleans(t, "much is new", v); n != 0 || checked(t, v.Image()).Free >= ahead-api.Capacity/2 {
		t.Errorf("much is new: Clean: %d, and %d blocks were free", n, ahead)
	}
	for i := range 8 {
		must(t, v.Remove(fmt.Sprint("/b", i)))
	}
	if n := cleans(t, "much is gone", v); n < api.Capacity/2*api.Block {
		t.Errorf("much is gone: Clean: %d", n)
	}
}

// TestP7CleanScattered: a little is needed wherever something was written; that it is kept already is no matter.
func TestP7CleanScattered(t *testing.T) {
	l := newLife(t, rand.New(rand.NewSource(1)), fullDisk(t))
	for turn := range 300 {
		l.scatter(turn)
		if turn%7 != 6 {
			must(t, l.v.Sync())
		}
		if turn%20 != 19 {
			continue
		}
		if n := cleans(t, fmt.Sprint("turn ", turn), l.v); n < 2*api.Block {
			t.Errorf("turn %d: Clean: %d", turn, n)
		}
		if turn%60 == 59 {
			l.v = opened(t, l.v.Image())
			cleans(t, fmt.Sprintf("turn %d, opened", turn), l.v)
		}
	}
}

// TestP7CleanLife: whatever was done, and kept, it answers as it shall, and there is room behind it.
func TestP7CleanLife(t *testing.T) {
	for seed := range 4 {
		l := newLife(t, rand.New(rand.NewSource(int64(seed))), volume(t))
		for turn := range 120 {
			for range l.Intn(6) {
				l.turn(api.MaxFile)
			}
			if l.Intn(3) > 0 {
				must(t, l.v.Sync())
			}
			if l.Intn(3) == 0 {
				cleans(t, fmt.Sprintf("seed %d, turn %d", seed, turn), l.v)
			}
		}
		keeps(t, fmt.Sprint("seed ", seed), l.v)
	}
}

// TestP7CleanRoom: where each keeping is a Clean, there is room however much is held.
func TestP7CleanRoom(t *testing.T) {
	v := fullDisk(t)
	for turn := range 60 {
		for i := range 8 {
			must(t, v.Write(fmt.Sprint("/b", i), turn, []byte{byte(turn), byte(i)}))
			must(t, v.Write(fmt.Sprint("/b", i), turn*i*api.Block%1200, []byte{byte(turn)}))
		}
		cleans(t, fmt.Sprint("turn ", turn), v)
	}
}

// TestP7CleanLimits: of the largest that may be held, too, enough is free.
func TestP7CleanLimits(t *testing.T) {
	for name, v := range atLimits(t) {
		cleans(t, name, v)
		must(t, v.Sync())
		cleans(t, name+" again", v)
	}
}
