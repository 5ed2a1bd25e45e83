package promises

import (
	"fmt"
	"math"
	"strings"
	"testing"

	"silt/api"
	"silt/silt"
)

func oddTexts() []string {
	return []string{
		"", "/", "//", ".", "..", "a", "f", "/a", "/f", "/a/g", "/a/", "/f/", "/f/x", "/x/y", "/x", "/A", "/.", "/..", "/...",
		"/\x00", "/\xff\xfe", "/é", "\n", "/a b", "/a/./g", "/a/../f", "silt\n", "silt\nd /a\n",
		"/abcdefghijkl", "/abcdefghijklm", strings.Repeat("/a", 6), strings.Repeat("/a", 7),
		strings.Repeat("/a", 1<<12), strings.Repeat("/", 1<<12), "/" + strings.Repeat("a", 1<<16),
	}
}

func oddNumbers() []int {
	return []int{math.MinInt, math.MinInt + 1, -api.MaxFile, -1, 0, 1, 2, 63, 64, 65, 1279, 1280, 1281, math.MaxInt32, 1 << 62, math.MaxInt - 1, math.MaxInt}
}

func oddBytes() [][]byte {
	return [][]byte{nil, {}, {0}, []byte("xyz"), make([]byte, 1280), make([]byte, 1281), make([]byte, api.Blocks*api.Block)}
}

// oddVolumes: one with something, an empty one, and two that are none.
func oddVolumes(t *testing.T) []*silt.Volume {
	return []*silt.Volume{volume(t, "/a/", "/a/g", "/f"), volume(t), nil, {}}
}

func TestP1NoPanicNumbers(t *testing.T) {
	for _, v := range oddVolumes(t) {
		for _, p := range oddTexts() {
			for _, m := range oddNumbers() {
				v.Cut(p, m)
				for _, n := range oddNumbers() {
					if b, e := v.Read(p, m, n); e != api.OK && len(b) != 0 {
						t.Errorf("Read(%.20q, %d, %d): %d bytes beside the error %d", p, m, n, len(b), e)
					}
				}
				for _, b := range oddBytes() {
					v.Write(p, m, b)
				}
			}
		}
	}
}

func TestP1NoPanicTexts(t *testing.T) {
	for _, v := range oddVolumes(t) {
		for _, p := range oddTexts() {
			v.Mkdir(p)
			for _, q := range oddTexts() {
				v.Link(p, q)
				v.Move(q, p)
			}
			if x, e := v.Stat(p); e != api.OK && x != (api.Entry{}) {
				t.Errorf("Stat(%.20q): %+v beside the error %d", p, x, e)
			}
			if l, e := v.List(p); e != api.OK && len(l) != 0 {
				t.Errorf("List(%.20q): %+v beside the error %d", p, l, e)
			}
			v.Remove(p)
			v.Usage()
		}
	}
}

// TestP1NoPanicElse: calls of which the answers are promised elsewhere.
func TestP1NoPanicElse(t *testing.T) {
	for _, b := range oddBytes() {
		silt.Open(b)
		silt.Check(b)
	}
	for _, p := range oddTexts() {
		for _, text := range []string{p, "silt\n" + p, "silt\nd " + p + "\n", "silt\nf " + p + " 0\n", "silt\nf /f " + p, "silt\nf /f 1\n" + p, "silt\nf /f 0\nl " + p + " /f\n", "silt\nf /f 0\nl /l " + p + "\n"} {
			if v, e := silt.Restore(text); (v == nil) != (e != api.OK) || e != api.OK && e != api.ErrDump {
				t.Errorf("Restore(%.40q): a Volume: %v, beside the error %d", text, v != nil, e)
			}
		}
	}
	for _, v := range oddVolumes(t) {
		for _, n := range oddNumbers() {
			v.Writes(n)
			v.Broken(n, nil)
			v.Broken(n, []bool{true, false, true})
		}
		v.Sync()
		v.Clean()
		v.Image()
		v.Epochs()
		v.Dump()
	}
}

func TestP1NoVolume(t *testing.T) {
	var none *silt.Volume
	for i, v := range []*silt.Volume{none, {}, new(silt.Volume)} {
		for _, p := range []string{"", "/", "/a", "a"} {
			data, eRead := v.Read(p, -1, 1)
			list, eList := v.List(p)
			entry, eStat := v.Stat(p)
			for k, e := range []api.Errno{v.Mkdir(p), v.Write(p, 0, []byte("x")), v.Write(p, -1, nil), v.Cut(p, 0), v.Cut(p, -1), v.Link(p, "/b"), v.Link("/b", p), v.Move(p, "/b"), v.Move("/b", p), v.Remove(p), eRead, eList, eStat, v.Sync()} {
				want(t, fmt.Sprintf("Volume %d, path %q, call %d", i, p, k), e, api.ErrClosed)
			}
			if len(data) != 0 || len(list) != 0 || entry != (api.Entry{}) {
				t.Errorf("Volume %d, path %q: %v, %v, %v beside ErrClosed", i, p, data, list, entry)
			}
		}
		if v.Usage() != 0 || v.Clean() != 0 || len(v.Image()) != 0 || v.Epochs() != 0 || v.Writes(0) != 0 || len(v.Broken(0, nil)) != 0 || v.Dump() != "" {
			t.Errorf("Volume %d: it answers something", i)
		}
	}
}

// TestP1Order: of the errors that apply, the one that the promise names first.
func TestP1Order(t *testing.T) {
	v := volume(t, "/d/", "/d/e/", "/f", "/full/")
	fill(t, v, "/full", "x", api.MaxEntries)
	read := func(p string, at, n int) api.Errno { _, e := v.Read(p, at, n); return e }
	for i, c := range []struct{ got, want api.Errno }{
		{v.Write("x", -1, nil), api.ErrPath}, {v.Cut("x", -1), api.ErrPath}, {read("x", -1, -1), api.ErrPath},
		{v.Write("/x/y", -1, nil), api.ErrRange}, {v.Cut("/x/y", -1), api.ErrRange}, {read("/x/y", -1, 0), api.ErrRange},
		{v.Write("/f/y", 1281, nil), api.ErrRange}, {v.Cut("/f/y", 1281), api.ErrRange}, {read("/f/y", 0, -1), api.ErrRange},
		{v.Write("/d", -1, nil), api.ErrRange}, {v.Cut("/d", -1), api.ErrRange}, {read("/d", 0, -1), api.ErrRange},
		{v.Cut("/x", 1281), api.ErrRange}, {read("/x", -1, 0), api.ErrRange},
		{v.Link("/x", "y"), api.ErrPath}, {v.Link("/d", "y"), api.ErrPath}, {v.Link("/f/x", "y"), api.ErrPath}, {v.Link("y", "/d"), api.ErrPath},
		{v.Move("/x", "y"), api.ErrPath}, {v.Move("/", "y"), api.ErrPath}, {v.Move("/f/x", "y"), api.ErrPath}, {v.Move("/d", "/d/"), api.ErrPath}, {v.Move("y", "/d"), api.ErrPath},
		{v.Link("/x", "/f/y"), api.ErrNone}, {v.Link("/x", "/d"), api.ErrNone}, {v.Link("/x", "/full/y"), api.ErrNone}, {v.Link("/x/y", "/f/y"), api.ErrNone},
		{v.Link("/f/x", "/y/z"), api.ErrFile}, {v.Link("/d", "/y/z"), api.ErrDir}, {v.Link("/d", "/f/z"), api.ErrDir}, {v.Link("/d", "/f"), api.ErrDir}, {v.Link("/d", "/full/y"), api.ErrDir}, {v.Link("/", "/"), api.ErrDir},
		{v.Link("/f", "/full/x0"), api.ErrThere}, {v.Mkdir("/full/x0"), api.ErrThere}, {v.Move("/f", "/full/x0"), api.ErrThere},
		{v.Move("/x", "/f/y"), api.ErrNone}, {v.Move("/x", "/d"), api.ErrNone}, {v.Move("/x/y", "/f/y"), api.ErrNone}, {v.Move("/f/x", "/y/z"), api.ErrFile},
		{v.Move("/", "/f/y"), api.ErrBusy}, {v.Move("/", "/x/y"), api.ErrBusy}, {v.Move("/", "/"), api.ErrBusy}, {v.Move("/", "/d"), api.ErrBusy},
		{v.Move("/d", "/d/x/y"), api.ErrBusy}, {v.Move("/d", "/d/e"), api.ErrBusy}, {v.Move("/full", "/full/y"), api.ErrBusy}, {v.Move("/full", "/full/x0"), api.ErrBusy}, {v.Move("/full", "/full/x0/y"), api.ErrBusy},
		{v.Move("/f", "/f/y"), api.ErrFile}, {v.Move("/full/x0", "/full/x0/y"), api.ErrFile},
	} {
		want(t, fmt.Sprint("case ", i), c.got, c.want)
	}
}

// TestP1OrderAtTheEnd: ErrDir, ErrMany, ErrFull, where each of the later ones applies too.
func TestP1OrderAtTheEnd(t *testing.T) {
	v := fullDisk(t)
	must(t, v.Mkdir("/d"))
	fill(t, v, "", "x", api.MaxEntries-9)
	unchanged(t, v, "Write of a new file, too much in a full directory", api.ErrMany, func() api.Errno { return v.Write("/y", 0, []byte("y")) })
	unchanged(t, v, "Write of a directory", api.ErrDir, func() api.Errno { return v.Write("/d", 0, []byte("y")) })
	unchanged(t, v, "Cut of a directory", api.ErrDir, func() api.Errno { return v.Cut("/d", 1) })
	unchanged(t, v, "Cut of nothing", api.ErrNone, func() api.Errno { return v.Cut("/y", 1) })
	unchanged(t, v, "Write of one byte too far", api.ErrRange, func() api.Errno { return v.Write("/x0", 1280, []byte("y")) })
	unchanged(t, v, "Write of a file that is there, in a full directory", api.ErrFull, func() api.Errno { return v.Write("/x0", 0, []byte("y")) })
	unchanged(t, v, "Write of a new file, elsewhere", api.ErrFull, func() api.Errno { return v.Write("/d/y", 0, []byte("y")) })
}

// TestP1Unchanged: wrong calls one and all change nothing.
func TestP1Unchanged(t *testing.T) {
	v := volume(t, "/a/", "/a/b/", "/a/b/c/", "/a/b/c/f", "/x/", "/x/y/", "/x/y/z/", "/f", "/full/")
	must(t, v.Link("/f", "/l"))
	fill(t, v, "/full", "x", api.MaxEntries)
	before := state(t, v)
	for i, e := range []api.Errno{
		v.Mkdir("/f"), v.Mkdir("/full/y"), v.Mkdir("/q/r"), v.Mkdir("/f/r"), v.Mkdir("q"),
		v.Write("/a", 0, []byte("q")), v.Write("/f", 1280, []byte("q")), v.Write("/f", -1, []byte("q")), v.Write("/full/y", 0, []byte("q")), v.Write("/f/q", 0, []byte("q")), v.Write("/q/r", 0, []byte("q")),
		v.Cut("/f", -1), v.Cut("/f", 1281), v.Cut("/a", 0), v.Cut("/q", 0), v.Cut("/f/q", 0),
		v.Link("/f", "/l"), v.Link("/a", "/q"), v.Link("/q", "/r"), v.Link("/f", "/full/y"), v.Link("/f", "/q/r"), v.Link("/f", "/f/r"), v.Link("/f", "/"),
		v.Move("/f", "/l"), v.Move("/a", "/a/q"), v.Move("/a", "/x/y/z/q"), v.Move("/f", "/full/y"), v.Move("/f", "/f/q"), v.Move("/", "/q"), v.Move("/q", "/r"), v.Move("/f", "/q/r"), v.Move("/a", "/"),
		v.Remove("/"), v.Remove("/a"), v.Remove("/q"), v.Remove("/f/q"), v.Remove("/q/r"), v.Remove("f"),
	} {
		if e == api.OK {
			t.Errorf("case %d: no error", i)
		}
	}
	if after := state(t, v); after != before {
		t.Errorf("is now\n%s\nand was\n%s", after, before)
	}
}

// TestP1FullLeavesNothing: a file that could not be made costs no node and no entry, however often.
func TestP1FullLeavesNothing(t *testing.T) {
	v := fullDisk(t)
	must(t, v.Mkdir("/d"))
	for range 3 * api.MaxLinks {
		if e := v.Write("/d/new", 5, []byte("new")); e != api.ErrFull {
			t.Fatalf("error %d, want %d", e, api.ErrFull)
		}
	}
	fill(t, v, "/d", "x", api.MaxEntries)
	fill(t, v, "", "x", api.MaxEntries-9)
	must(t, v.Remove("/d/x0"))
	must(t, v.Mkdir("/d/e"))
	fill(t, v, "/d/e", "x", api.MaxNodes-1-40)
	want(t, "one node more", v.Mkdir("/d/e/y"), api.ErrMany)
}

// TestP1NothingBeside: beside an error there is no result.
func TestP1NothingBeside(t *testing.T) {
	v := volume(t, "/d/", "/d/f", "/f")
	for _, c := range []struct {
		path  string
		at, n int
	}{{"/f", -1, 2}, {"/f", 0, -1}, {"/d", 0, 2}, {"/x", 0, 2}, {"f", 0, 2}, {"/f/x", 0, 2}, {"/x/f", 0, 2}} {
		if b, e := v.Read(c.path, c.at, c.n); e == api.OK || len(b) != 0 {
			t.Errorf("Read(%q, %d, %d): %q, error %d", c.path, c.at, c.n, b, e)
		}
	}
	for _, p := range []string{"/f/x", "/x", "/x/f", "d", "/d/"} {
		if x, e := v.Stat(p); e == api.OK || x != (api.Entry{}) {
			t.Errorf("Stat(%q): %+v, error %d", p, x, e)
		}
		if l, e := v.List(p); e == api.OK || len(l) != 0 {
			t.Errorf("List(%q): %+v, error %d", p, l, e)
		}
	}
	if l, e := v.List("/f"); e != api.ErrFile || len(l) != 0 {
		t.Errorf("List of a file: %+v, error %d", l, e)
	}
}
