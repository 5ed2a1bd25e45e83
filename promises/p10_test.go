package promises

import (
	"bytes"
	"fmt"
	"math/rand"
	"strings"
	"testing"

	"silt/api"
	"silt/silt"
)

// nodes counts directories and files, with the root, by List alone.
func nodes(t *testing.T, v *silt.Volume) int {
	t.Helper()
	directories := 1
	entries := map[int]int{} // of files, by how many links these have
	var look func(path string)
	look = func(path string) {
		list, e := v.List(path)
		must(t, e)
		for _, x := range list {
			if x.Dir {
				directories++
				look(strings.TrimSuffix(path, "/") + "/" + x.Name)
			} else {
				entries[x.Links]++
			}
		}
	}
	look("/")
	files := 0
	for links, n := range entries {
		files += n / links
	}
	return directories + files
}

// checked: Check of an image that must be one, held against what Open holds.
func checked(t *testing.T, image []byte) api.Report {
	t.Helper()
	r, e := silt.Check(image)
	if e != api.OK {
		t.Fatalf("Check: error %d", e)
	}
	v := opened(t, image)
	if r.Nodes != nodes(t, v) || r.Usage != v.Usage() {
		t.Errorf("Check: %+v, and there are %d nodes, of the usage %d", r, nodes(t, v), v.Usage())
	}
	if r.Live < r.Usage || r.Live > r.Usage+240 || r.Free < 0 || r.Live+r.Free > api.Blocks {
		t.Errorf("Check: %+v can't be", r)
	}
	return r
}

// TestP10Example: nodes and usage of what was kept, not of what is held.
func TestP10Example(t *testing.T) {
	v := volume(t)
	tells := func(what string, nodes, usage int) {
		t.Helper()
		if r := checked(t, v.Image()); r.Nodes != nodes || r.Usage != usage {
			t.Errorf("%s: %+v, want %d nodes, of the usage %d", what, r, nodes, usage)
		}
	}
	tells("an empty root", 1, 0)
	must(t, v.Mkdir("/a"))
	must(t, v.Write("/a/f", 3, []byte("xyz")))
	tells("nothing was kept", 1, 0)
	must(t, v.Sync())
	tells("a directory and a file", 3, 1)
	must(t, v.Link("/a/f", "/g"))
	must(t, v.Cut("/g", 65))
	tells("a link was not kept", 3, 1)
	must(t, v.Sync())
	tells("a link, and a longer file", 3, 2)
	must(t, v.Write("/h", 0, nil))
	must(t, v.Mkdir("/a/b"))
	v.Clean()
	tells("a file of nothing, and a directory within", 5, 2)
	must(t, v.Remove("/a/f"))
	must(t, v.Sync())
	tells("a link less", 5, 2)
	must(t, v.Remove("/g"))
	must(t, v.Sync())
	tells("a file less", 4, 0)
}

func TestP10Limits(t *testing.T) {
	for name, v := range atLimits(t) {
		must(t, v.Sync())
		r := checked(t, v.Image())
		if r.Nodes != nodes(t, v) || r.Usage != v.Usage() {
			t.Errorf("%s: %+v, want %d nodes, of the usage %d", name, r, nodes(t, v), v.Usage())
		}
		if name == "MaxLinks" && (r.Nodes != api.MaxNodes || r.Usage != api.Capacity) {
			t.Errorf("%s: %+v", name, r)
		}
	}
}

// TestP10Life: of each disk that there is, broken ones too, Check tells what Open holds.
func TestP10Life(t *testing.T) {
	l := newLife(t, rand.New(rand.NewSource(1)), volume(t))
	for range 40 {
		for range l.Intn(5) {
			l.turn(900)
		}
		l.keep()
		checked(t, l.v.Image())
	}
	for epoch := -1; epoch <= l.v.Epochs(); epoch++ {
		for _, lost := range l.someLost(l.v.Writes(epoch))[:4] {
			checked(t, l.v.Broken(epoch, lost))
		}
	}
}

// agree: Check answers ErrImage just where Open does, with nothing beside it, and neither changes what is handed in.
func agree(t *testing.T, what string, image []byte) api.Errno {
	t.Helper()
	given := bytes.Clone(image)
	r, e := silt.Check(given)
	_, f := silt.Open(given)
	if e != f || e != api.OK && (e != api.ErrImage || r != (api.Report{})) {
		t.Errorf("%s: Check: %+v, error %d, and Open: error %d", what, r, e, f)
	}
	if !bytes.Equal(given, image) {
		t.Errorf("%s: what was handed in is changed", what)
	}
	return e
}

func TestP10NoImage(t *testing.T) {
	for name, image := range noImages(t) {
		want(t, name, agree(t, name, image), api.ErrImage)
	}
	want(t, "an image", agree(t, "an image", volume(t, "/a/", "/a/f").Image()), api.OK)
}

// TestP10OneByte: of the blocks that are needed none can be changed unseen, and they are as many as Check tells;
// of the others, in each of which a byte is changed, Check tells the same.
func TestP10OneByte(t *testing.T) {
	for seed := range 3 {
		l := newLife(t, rand.New(rand.NewSource(int64(seed))), volume(t))
		for range 4 + 10*seed {
			l.turn(500)
			l.turn(500)
			l.keep()
		}
		image := l.v.Image()
		r := checked(t, image)
		spoilt := 0
		for place := range api.Blocks {
			i := place*api.Block + l.Intn(api.Block)
			by := byte(1 + l.Intn(255))
			image[i] ^= by
			if agree(t, fmt.Sprint("byte ", i), image) == api.ErrImage {
				spoilt++
			} else if got, _ := silt.Check(image); got != r {
				t.Errorf("byte %d: Check: %+v, want %+v", i, got, r)
			}
			image[i] ^= by
		}
		if spoilt != r.Live {
			t.Errorf("%d blocks can't be changed, and %d are needed", spoilt, r.Live)
		}
	}
}

// TestP10ManyBytes: whatever is changed, Check answers as Open does.
func TestP10ManyBytes(t *testing.T) {
	l := newLife(t, rand.New(rand.NewSource(8)), volume(t))
	for range 20 {
		l.turn(400)
		l.keep()
	}
	for _, image := range l.spoilt(200) {
		agree(t, "a changed image", image)
	}
}

// TestP10Volumes: who checks an image changes no Volume, and writes nothing.
func TestP10Volumes(t *testing.T) {
	v := volume(t, "/a/", "/a/f")
	must(t, v.Sync())
	must(t, v.Write("/g", 0, []byte("not kept")))
	held, image, epochs := state(t, v), v.Image(), v.Epochs()
	checked(t, image)
	checked(t, v.Image())
	if state(t, v) != held || !bytes.Equal(v.Image(), image) || v.Epochs() != epochs {
		t.Error("something is changed")
	}
}
