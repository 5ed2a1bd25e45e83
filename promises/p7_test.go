package promises

import (
	"fmt"
	"math/rand"
	"testing"

	"silt/api"
	"silt/silt"
)

// keeps: behind Sync the disk holds what is held, which is what was held ahead of it, and something was flushed.
func keeps(t *testing.T, what string, v *silt.Volume) {
	t.Helper()
	before, epochs := state(t, v), v.Epochs()
	want(t, what+": Sync", v.Sync(), api.OK)
	if got := state(t, v); got != before {
		t.Fatalf("%s: Sync changed what is held:\n%s\nwas\n%s", what, got, before)
	}
	if got := state(t, opened(t, v.Image())); got != before {
		t.Fatalf("%s: kept is\n%s\nwant\n%s", what, got, before)
	}
	if v.Epochs() <= epochs {
		t.Errorf("%s: %d flushes, and %d ahead of Sync", what, v.Epochs(), epochs)
	}
}

func TestP7Sync(t *testing.T) {
	v := volume(t)
	keeps(t, "an empty root", v)
	keeps(t, "an empty root again", v)
	must(t, v.Mkdir("/a"))
	keeps(t, "a directory", v)
	must(t, v.Write("/a/f", 3, []byte("xyz")))
	keeps(t, "a file", v)
	must(t, v.Write("/a/g", 0, nil))
	keeps(t, "a file of nothing", v)
	must(t, v.Link("/a/f", "/g"))
	keeps(t, "a link", v)
	must(t, v.Cut("/g", 65))
	keeps(t, "a longer file", v)
	must(t, v.Cut("/g", 64))
	keeps(t, "a whole block", v)
	must(t, v.Move("/a", "/abcdefghijkl"))
	keeps(t, "a long name", v)
	must(t, v.Remove("/abcdefghijkl/f"))
	keeps(t, "a link less", v)
	must(t, v.Remove("/g"))
	keeps(t, "a file less", v)
	must(t, v.Remove("/abcdefghijkl/g"))
	must(t, v.Remove("/abcdefghijkl"))
	keeps(t, "an empty root at last", v)
}

// TestP7EverySize: files of all sizes up to two blocks, and around each block's end.
func TestP7EverySize(t *testing.T) {
	v := volume(t, "/f")
	for size := range api.MaxFile + 1 {
		if size > 130 && size%api.Block > 1 && size%api.Block < 63 {
			continue
		}
		data := make([]byte, size)
		for i := range data {
			data[i] = byte(i*7 + size)
		}
		must(t, v.Cut("/f", 0))
		must(t, v.Write("/f", 0, data))
		keeps(t, fmt.Sprint("size ", size), v)
	}
}

// TestP7Limits: as much as may be, of each that is limited.
func TestP7Limits(t *testing.T) {
	v := fullDisk(t)
	keeps(t, "Capacity", v)
	for i := range 11 {
		must(t, v.Mkdir(fmt.Sprintf("/abcdefghijk%c", 'a'+i)))
	}
	for i := range api.MaxNodes - 1 - 8 - 11 {
		must(t, v.Write(fmt.Sprintf("/abcdefghijk%c/1234567890%d", 'a'+i%11, 10+i), 0, nil))
	}
	want(t, "one node more", v.Mkdir("/abcdefghijka/n"), api.ErrMany)
	keeps(t, "MaxNodes", v)
	for i := range api.MaxLinks - (api.MaxNodes - 1) {
		must(t, v.Link("/b0", fmt.Sprintf("/abcdefghijk%c/x234567890%d", 'a'+i%11, 10+i)))
	}
	want(t, "one entry more", v.Link("/b0", "/abcdefghijka/n"), api.ErrMany)
	keeps(t, "MaxLinks", v)

	v = volume(t)
	path := ""
	for i := range api.MaxDepth {
		path += fmt.Sprintf("/%d-_.bcdefgh0", i)
		if i < api.MaxDepth-1 {
			must(t, v.Mkdir(path))
		}
	}
	must(t, v.Write(path, 0, []byte("deep")))
	keeps(t, "MaxDepth", v)

	v = volume(t)
	for i := range api.MaxNodes - 1 {
		if i%15 == 0 {
			must(t, v.Mkdir(fmt.Sprint("/d", i/15)))
			continue
		}
		must(t, v.Write(fmt.Sprintf("/d%d/f%d", i/15, i), 0, make([]byte, 2*api.Block)))
	}
	keeps(t, "files of two blocks", v)
}

// TestP7Room: whatever is done, there is room: all is written again and again.
func TestP7Room(t *testing.T) {
	v := fullDisk(t)
	for turn := range 300 {
		for i := range 8 {
			data := make([]byte, api.MaxFile)
			for k := range data {
				data[k] = byte(k*(i+3) + turn)
			}
			must(t, v.Write(fmt.Sprint("/b", i), 0, data))
		}
		must(t, v.Sync())
		if turn%30 == 29 {
			keeps(t, fmt.Sprint("turn ", turn), v)
		}
	}
}

// TestP7RoomForLittle: many Syncs of which each changes a little, here and there, so that on the whole disk a little is needed.
func TestP7RoomForLittle(t *testing.T) {
	for _, few := range []int{1, 3, 7, 13, 40} {
		v := fullDisk(t)
		at := 0
		for turn := range 1500 / few {
			for range few {
				must(t, v.Write(fmt.Sprint("/b", at/20), at%20*api.Block, []byte{byte(turn), byte(turn >> 8)}))
				at = (at + 37) % api.Capacity
			}
			must(t, v.Sync())
			if turn%100 == 99 {
				keeps(t, fmt.Sprintf("%d, turn %d", few, turn), v)
			}
		}
		keeps(t, fmt.Sprint(few), v)
	}
}

// TestP7RoomScattered: many Syncs of which each leaves a little that is needed, wherever it wrote.
func TestP7RoomScattered(t *testing.T) {
	l := newLife(t, rand.New(rand.NewSource(1)), fullDisk(t))
	for turn := range 1000 {
		l.scatter(turn)
		must(t, l.v.Sync())
		if turn%50 == 49 {
			keeps(t, fmt.Sprint("turn ", turn), l.v)
		}
	}
}

// TestP7RoomAgain: each Sync is followed by an Open, which must know where there is room.
func TestP7RoomAgain(t *testing.T) {
	l := newLife(t, rand.New(rand.NewSource(1)), volume(t))
	for turn := range 400 {
		for range l.Intn(6) {
			l.turn(api.MaxFile)
		}
		want := state(t, l.v)
		must(t, l.v.Sync())
		l.v = opened(t, l.v.Image())
		if got := state(t, l.v); got != want {
			t.Fatalf("turn %d: it holds\n%s\nwant\n%s", turn, got, want)
		}
	}
}

// TestP7Clean: it keeps what is held, and answers whole blocks.
func TestP7Clean(t *testing.T) {
	v := volume(t, "/a/", "/a/f", "/g")
	before := state(t, v)
	if n := v.Clean(); n < 0 || n%api.Block != 0 {
		t.Errorf("Clean: %d", n)
	}
	if got := state(t, v); got != before {
		t.Errorf("Clean changed what is held:\n%s\nwas\n%s", got, before)
	}
	if got := state(t, opened(t, v.Image())); got != before {
		t.Errorf("Clean: kept is\n%s\nwant\n%s", got, before)
	}
}
