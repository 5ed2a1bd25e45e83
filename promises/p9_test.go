package promises

import (
	"bytes"
	"fmt"
	"math/rand"
	"slices"
	"testing"

	"silt/api"
	"silt/silt"
)

// TestP9Example: Sync, then Write without Sync.
func TestP9Example(t *testing.T) {
	v := volume(t)
	must(t, v.Mkdir("/a"))
	must(t, v.Write("/a/f", 3, []byte("xyz")))
	must(t, v.Link("/a/f", "/g"))
	if got := names(t, opened(t, v.Image()), "/"); got != "" {
		t.Errorf("nothing was kept, but %s", got)
	}
	must(t, v.Sync())
	at := state(t, v)
	must(t, v.Write("/a/f", 0, []byte("new")))
	must(t, v.Remove("/g"))
	w := opened(t, v.Image())
	if got := state(t, w); got != at {
		t.Errorf("it holds\n%s\nwant\n%s", got, at)
	}
	// Two links are still of one file.
	must(t, w.Write("/g", 0, []byte("W")))
	if got := content(t, w, "/a/f"); got != "W\x00\x00xyz" {
		t.Errorf("the other link's file is %q", got)
	}
	if got := content(t, v, "/a/f"); got != "newxyz" {
		t.Errorf("the first Volume's file is %q", got)
	}
}

// noImages: what is not read as what the program writes.
func noImages(t *testing.T) map[string][]byte {
	t.Helper()
	const size = api.Blocks * api.Block
	good := volume(t, "/a/", "/a/f").Image()
	random := make([]byte, size)
	rand.New(rand.NewSource(1)).Read(random)
	return map[string][]byte{
		"nil": nil, "nothing": {}, "a byte": {1}, "a block": good[:api.Block], "a block less": good[:size-api.Block], "a byte less": good[:size-1], "the first byte less": good[1:],
		"a byte more": append(slices.Clone(good), 0), "a block more": append(slices.Clone(good), make([]byte, api.Block)...), "two of them": append(slices.Clone(good), good...),
		"noughts": make([]byte, size), "ones": bytes.Repeat([]byte{1}, size), "all bits": bytes.Repeat([]byte{255}, size), "at random": random, "a text": bytes.Repeat([]byte("silt\n"), size)[:size],
		"moved by a byte": append(slices.Clone(good[1:]), good[0]), "moved by a block": append(slices.Clone(good[api.Block:]), good[:api.Block]...),
	}
}

func TestP9NoImage(t *testing.T) {
	for name, image := range noImages(t) {
		given := bytes.Clone(image)
		if v, e := silt.Open(given); v != nil || e != api.ErrImage {
			t.Errorf("%s: Volume %v, error %d, want %d", name, v != nil, e, api.ErrImage)
		}
		if !bytes.Equal(given, image) {
			t.Errorf("%s: what was handed in is changed", name)
		}
	}
}

// TestP9PowerFails: in each epoch of short lives.
func TestP9PowerFails(t *testing.T) {
	for seed := range 8 {
		l := newLife(t, rand.New(rand.NewSource(int64(seed))), volume(t))
		for range 12 {
			for range l.Intn(5) {
				l.turn(300)
			}
			l.keep()
		}
		l.turn(300)
		l.failsEverywhere()
	}
}

// TestP9PowerFailsEachWay: of what was written in an epoch, just these are lost: for all of these.
func TestP9PowerFailsEachWay(t *testing.T) {
	l := newLife(t, rand.New(rand.NewSource(1)), volume(t))
	for i := range 4 {
		must(t, l.v.Write("/f", i, []byte("some bytes")))
		must(t, l.v.Mkdir(fmt.Sprint("/d", i)))
		l.sync()
	}
	for epoch := range l.v.Epochs() {
		n := min(l.v.Writes(epoch), 9)
		for set := range 1 << n {
			lost := make([]bool, n)
			for i := range lost {
				lost[i] = set>>i&1 == 1
			}
			l.fails(epoch, lost)
		}
	}
}

// failsLate lets the power fail in each epoch of a long life, in some of the ways.
func (l *life) failsLate() {
	l.Helper()
	for epoch := range l.v.Epochs() + 1 {
		n := l.v.Writes(epoch)
		l.fails(epoch, nil)
		l.fails(epoch, lostAll(n, -1))
		l.fails(epoch, lostAll(n, l.Intn(n+1)-1))
		l.fails(epoch, l.someLost(n)[3])
	}
}

// TestP9PowerFailsLate: when the disk was written many times over, and much of it is needed.
func TestP9PowerFailsLate(t *testing.T) {
	l := newLife(t, rand.New(rand.NewSource(1)), fullDisk(t))
	for i := range 6 {
		must(t, l.v.Cut(fmt.Sprint("/b", i), 1100+i))
	}
	for range 200 {
		for range 1 + l.Intn(6) {
			l.turn(api.MaxFile)
			l.v.Write(fmt.Sprint("/b", l.Intn(8)), l.Intn(900), []byte{byte(l.Intn(256))})
		}
		l.sync()
	}
	l.failsLate()
}

// TestP9PowerFailsScattered: when the disk must be cleaned time and again.
func TestP9PowerFailsScattered(t *testing.T) {
	l := newLife(t, rand.New(rand.NewSource(2)), fullDisk(t))
	for turn := range 250 {
		l.scatter(turn)
		l.sync()
	}
	l.failsLate()
}

// TestP9PowerFailsInClean: what Clean writes onward stood on the disk already, and must stand there until the new one does.
func TestP9PowerFailsInClean(t *testing.T) {
	l := newLife(t, rand.New(rand.NewSource(3)), fullDisk(t))
	for turn := range 60 {
		l.scatter(turn)
		if turn%12 != 11 {
			l.sync()
			continue
		}
		from := l.v.Epochs()
		l.clean()
		for epoch := from; epoch < l.v.Epochs(); epoch++ {
			for _, lost := range l.someLost(l.v.Writes(epoch)) {
				w := l.fails(epoch, lost)
				cleans(t, fmt.Sprintf("turn %d, epoch %d", turn, epoch), w)
			}
		}
	}
}

// TestP9PowerFailsAgain: what is opened behind a failure goes on, until the next one.
func TestP9PowerFailsAgain(t *testing.T) {
	for seed := range 5 {
		r := rand.New(rand.NewSource(int64(100 + seed)))
		v := volume(t)
		for range 40 {
			l := newLife(t, r, v)
			for range 1 + r.Intn(5) {
				for range r.Intn(4) {
					l.turn(700)
				}
				l.keep()
			}
			epoch := r.Intn(l.v.Epochs() + 1)
			choice := l.someLost(l.v.Writes(epoch))
			v = l.fails(epoch, choice[r.Intn(len(choice))])
		}
	}
}

// TestP9OneByte: an image of which one byte is another one is none, or holds what was kept at some time.
func TestP9OneByte(t *testing.T) {
	l := newLife(t, rand.New(rand.NewSource(5)), volume(t))
	for range 25 {
		for range 3 {
			l.turn(400)
		}
		l.keep()
	}
	was := map[string]int{}
	for _, k := range l.kept {
		was[k.state]++
	}
	holds := func(image []byte, i int) bool {
		v, e := silt.Open(image)
		if e != api.OK {
			if v != nil || e != api.ErrImage {
				t.Fatalf("byte %d: Volume %v, error %d", i, v != nil, e)
			}
			return false
		}
		if got := state(t, v); was[got] == 0 {
			t.Fatalf("byte %d: it holds\n%s", i, got)
		}
		return true
	}
	image := l.v.Image()
	touchy := map[int]int{} // blocks in which a byte makes the image none
	for place := range api.Blocks {
		i := place*api.Block + l.Intn(api.Block)
		by := byte(1 + l.Intn(255))
		image[i] ^= by
		if !holds(image, i) {
			touchy[place]++
		}
		image[i] ^= by
	}
	for place := range touchy {
		for i := place * api.Block; i < (place+1)*api.Block; i++ {
			by := byte(1) << l.Intn(8)
			image[i] ^= by
			holds(image, i)
			image[i] ^= by
		}
	}
	broken := l.v.Broken(l.v.Epochs()/2, []bool{true, false, true})
	for i := l.Intn(200); i < len(broken); i += 200 {
		broken[i]++
		holds(broken, i)
		broken[i]--
	}
}

// spoilt are images of which many bytes are others.
func (l *life) spoilt(n int) [][]byte {
	good := l.v.Image()
	var images [][]byte
	for range n {
		image := bytes.Clone(good)
		for range 1 + l.Intn(6) {
			from, to := l.Intn(len(image)), l.Intn(len(image))
			switch n := l.Intn(200); l.Intn(3) {
			case 0:
				copy(image[to:], good[from:min(from+n, len(image))])
			case 1:
				clear(image[from:min(from+n, len(image))])
			default:
				image[from] = byte(l.Intn(256))
			}
		}
		images = append(images, image)
	}
	return images
}

// TestP9ManyBytes: whatever is changed, Open ends, and what it opens can be used.
func TestP9ManyBytes(t *testing.T) {
	l := newLife(t, rand.New(rand.NewSource(6)), volume(t))
	for range 25 {
		l.turn(400)
		l.keep()
	}
	for _, image := range l.spoilt(400) {
		v, e := silt.Open(image)
		if e == api.OK {
			keeps(t, "a changed image", v)
		} else if v != nil || e != api.ErrImage {
			t.Fatalf("Volume %v, error %d", v != nil, e)
		}
	}
}

// TestP9Copies: files that hold what stands on a disk are still nothing but files.
func TestP9Copies(t *testing.T) {
	l := newLife(t, rand.New(rand.NewSource(7)), volume(t))
	for turn := range 40 {
		image := l.v.Image()
		for i := range 5 {
			// The blocks that are not of noughts are those that may be taken for others.
			var data []byte
			for at := 0; at < len(image) && len(data) < api.MaxFile; at += api.Block {
				block := image[at : at+api.Block]
				if (turn == 0 || l.Intn(4) == 0) && !bytes.Equal(block, make([]byte, api.Block)) {
					data = append(data, block...)
				}
			}
			must(t, l.v.Write(fmt.Sprint("/f", i), 0, data))
		}
		l.sync()
	}
	for epoch := range l.v.Epochs() + 1 {
		l.fails(epoch, nil)
		l.fails(epoch, lostAll(l.v.Writes(epoch), -1))
		l.fails(epoch, l.someLost(l.v.Writes(epoch))[4])
	}
}
