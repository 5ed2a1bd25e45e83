package promises

import (
	"fmt"
	"strings"
	"testing"

	"silt/api"
	"silt/silt"
)

func TestP4Mkdir(t *testing.T) {
	v := volume(t, "/f")
	for _, p := range []string{"/", "/f"} {
		unchanged(t, v, "Mkdir of "+p, api.ErrThere, func() api.Errno { return v.Mkdir(p) })
	}
	must(t, v.Mkdir("/d"))
	must(t, v.Mkdir("/d/e"))
	must(t, v.Mkdir("/d/d"))
	unchanged(t, v, "Mkdir of a directory", api.ErrThere, func() api.Errno { return v.Mkdir("/d") })
	unchanged(t, v, "Mkdir in a file", api.ErrFile, func() api.Errno { return v.Mkdir("/f/e") })
	unchanged(t, v, "Mkdir in nothing", api.ErrNone, func() api.Errno { return v.Mkdir("/x/e") })
	if a, b, c := names(t, v, "/"), names(t, v, "/d"), names(t, v, "/d/d"); a != "d f" || b != "d e" || c != "" {
		t.Errorf("names %q, %q, %q", a, b, c)
	}
}

func TestP4Remove(t *testing.T) {
	v := volume(t, "/d/", "/d/e/", "/d/f", "/g")
	must(t, v.Link("/g", "/l"))
	for _, c := range []struct {
		path string
		e    api.Errno
	}{{"/", api.ErrBusy}, {"/d", api.ErrBusy}, {"/x", api.ErrNone}, {"/d/x", api.ErrNone}, {"/g/x", api.ErrFile}, {"/x/g", api.ErrNone}, {"/d/", api.ErrPath}} {
		unchanged(t, v, "Remove of "+c.path, c.e, func() api.Errno { return v.Remove(c.path) })
	}
	must(t, v.Remove("/g"))
	if got := stat(t, v, "/l") + content(t, v, "/l"); got != "l:2:1/g" {
		t.Errorf("the other link: %s", got)
	}
	want(t, "Remove again", v.Remove("/g"), api.ErrNone)
	must(t, v.Remove("/d/e"))
	want(t, "Remove of a directory with a file", v.Remove("/d"), api.ErrBusy)
	must(t, v.Remove("/d/f"))
	must(t, v.Remove("/d"))
	must(t, v.Remove("/l"))
	if got := names(t, v, "/"); got != "" || v.Usage() != 0 {
		t.Errorf("what is left: %q, usage %d", got, v.Usage())
	}
	want(t, "Remove of the empty root", v.Remove("/"), api.ErrBusy)
	must(t, v.Write("/l", 0, nil))
	must(t, v.Mkdir("/d"))
	if got := stat(t, v, "/l") + " " + stat(t, v, "/d"); got != "l:0:1 d/0:1" {
		t.Errorf("what was made anew: %s", got)
	}
}

func TestP4Link(t *testing.T) {
	v := volume(t, "/d/", "/f", "/g")
	for _, c := range []struct {
		from, to string
		e        api.Errno
	}{{"/x", "/l", api.ErrNone}, {"/d", "/l", api.ErrDir}, {"/", "/l", api.ErrDir}, {"/f", "/g", api.ErrThere}, {"/f", "/f", api.ErrThere}, {"/f", "/d", api.ErrThere}, {"/f", "/", api.ErrThere}, {"/f", "/x/l", api.ErrNone}, {"/f", "/g/l", api.ErrFile}} {
		unchanged(t, v, fmt.Sprintf("Link(%s, %s)", c.from, c.to), c.e, func() api.Errno { return v.Link(c.from, c.to) })
	}
	must(t, v.Link("/f", "/d/l"))
	must(t, v.Link("/d/l", "/m"))
	for _, p := range []string{"/f", "/d/l", "/m"} {
		if got := stat(t, v, p); !strings.HasSuffix(got, ":2:3") {
			t.Errorf("a link of three: %s", got)
		}
	}
	must(t, v.Write("/d/l", 1, []byte("new")))
	must(t, v.Cut("/m", 3))
	if a, b := content(t, v, "/f"), content(t, v, "/g"); a != "/ne" || b != "/g" || v.Usage() != 2 {
		t.Errorf("one file of three links holds %q, another file %q, usage %d", a, b, v.Usage())
	}
	must(t, v.Remove("/f"))
	must(t, v.Write("/f", 0, []byte("other")))
	if a, b := content(t, v, "/m"), stat(t, v, "/d/l"); a != "/ne" || b != "l:3:2" {
		t.Errorf("the other links: %q, %s", a, b)
	}
}

func TestP4MoveErrors(t *testing.T) {
	v := volume(t, "/a/", "/a/b/", "/a/b/c/", "/f", "/e/")
	must(t, v.Link("/f", "/l"))
	for _, c := range []struct {
		from, to string
		e        api.Errno
	}{
		{"/x", "/y", api.ErrNone}, {"/x", "/f", api.ErrNone}, {"/", "/y", api.ErrBusy}, {"/", "/a", api.ErrBusy}, {"/", "/", api.ErrBusy},
		{"/a", "/a/x", api.ErrBusy}, {"/a", "/a/b", api.ErrBusy}, {"/a", "/a/b/x", api.ErrBusy}, {"/a", "/a/x/y", api.ErrBusy}, {"/a/b", "/a/b/c", api.ErrBusy}, {"/e", "/e/x", api.ErrBusy},
		{"/a", "/a", api.ErrThere}, {"/f", "/f", api.ErrThere}, {"/f", "/l", api.ErrThere}, {"/f", "/a", api.ErrThere}, {"/a", "/f", api.ErrThere}, {"/a", "/", api.ErrThere}, {"/a/b", "/a", api.ErrThere}, {"/a", "/e", api.ErrThere},
		{"/f", "/f/x", api.ErrFile}, {"/a", "/f/x", api.ErrFile}, {"/a", "/x/y", api.ErrNone}, {"/f", "/a/x/y", api.ErrNone},
	} {
		unchanged(t, v, fmt.Sprintf("Move(%s, %s)", c.from, c.to), c.e, func() api.Errno { return v.Move(c.from, c.to) })
	}
}

func TestP4Move(t *testing.T) {
	v := volume(t, "/a/", "/a/b/", "/a/b/f", "/g", "/e/")
	must(t, v.Link("/g", "/l"))
	for i, c := range []struct{ from, to, root string }{
		{"/a", "/ab", "ab e g l"}, {"/ab", "/a", "a e g l"}, {"/a/b", "/a/bb", "a e g l"}, {"/a/bb", "/b", "a b e g l"}, {"/b", "/a/b", "a e g l"},
		{"/g", "/e/g", "a e l"}, {"/e/g", "/0", "0 a e l"}, {"/0", "/g", "a e g l"}, {"/e", "/a/b/e", "a g l"}, {"/a/b/e", "/e", "a e g l"},
	} {
		must(t, v.Move(c.from, c.to))
		if _, e := v.Stat(c.from); e != api.ErrNone || names(t, v, "/") != c.root {
			t.Errorf("case %d: the names are %q, and of %s: error %d", i, names(t, v, "/"), c.from, e)
		}
	}
	if got := content(t, v, "/a/b/f") + stat(t, v, "/a") + stat(t, v, "/a/b") + stat(t, v, "/a/b/f"); got != "/a/b/fa/1:1b/1:1f:6:1" {
		t.Errorf("what was moved with its directory: %s", got)
	}
	must(t, v.Write("/l", 0, []byte("one")))
	if got := content(t, v, "/g") + stat(t, v, "/g"); got != "oneg:3:2" || v.Usage() != 2 {
		t.Errorf("a link that was moved: %s, usage %d", got, v.Usage())
	}
}

// TestP4Entries: MaxEntries, of the root and of another directory.
func TestP4Entries(t *testing.T) {
	for _, c := range []struct {
		dir, out string
		have     int
	}{{"", "/d/out", 2}, {"/d", "/out", 1}} {
		v := volume(t, "/d/", c.out, c.dir+"/last/")
		fill(t, v, c.dir, "x", api.MaxEntries-c.have)
		atMaxEntries(t, v, c.dir, c.out)
	}
}

// atMaxEntries: dir has MaxEntries entries, x0 and the directory last among them; the file out stands elsewhere.
func atMaxEntries(t *testing.T, v *silt.Volume, dir string, out string) {
	t.Helper()
	for what, do := range map[string]func() api.Errno{
		"Mkdir": func() api.Errno { return v.Mkdir(dir + "/y") },
		"Write": func() api.Errno { return v.Write(dir+"/y", 0, nil) },
		"Link":  func() api.Errno { return v.Link(dir+"/x0", dir+"/y") },
		"Move":  func() api.Errno { return v.Move(out, dir+"/y") },
	} {
		unchanged(t, v, what+" into the full directory "+dir, api.ErrMany, do)
	}
	want(t, "Mkdir of what is there", v.Mkdir(dir+"/x0"), api.ErrThere)
	want(t, "Link to what is there", v.Link(out, dir+"/x0"), api.ErrThere)
	want(t, "Move to what is there", v.Move(out, dir+"/x0"), api.ErrThere)
	must(t, v.Write(dir+"/x0", 0, []byte("x")))
	must(t, v.Move(dir+"/x0", dir+"/y"))
	must(t, v.Move(dir+"/last", dir+"/z"))
	must(t, v.Move(dir+"/y", dir+"/z/y"))
	must(t, v.Link(out, dir+"/y"))
	want(t, "Move back", v.Move(dir+"/z/y", dir+"/x0"), api.ErrMany)
	must(t, v.Remove(dir+"/y"))
	must(t, v.Move(dir+"/z/y", dir+"/x0"))
	must(t, v.Remove(dir+"/x0"))
	must(t, v.Mkdir(dir+"/y"))
}

// TestP4Nodes: MaxNodes, which count the root, directories and files, and a file of two links once.
func TestP4Nodes(t *testing.T) {
	v := volume(t, "/a/", "/b/", "/c/")
	fill(t, v, "/a", "x", 20)
	fill(t, v, "/b", "x", 20)
	for i := range 15 {
		must(t, v.Mkdir(fmt.Sprintf("/c/d%d", i)))
	}
	must(t, v.Link("/a/x0", "/l"))
	must(t, v.Write("/c/last", 0, nil))
	for what, do := range map[string]func() api.Errno{
		"Mkdir": func() api.Errno { return v.Mkdir("/y") },
		"Write": func() api.Errno { return v.Write("/y", 0, nil) },
		"deep":  func() api.Errno { return v.Mkdir("/c/d0/y") },
	} {
		unchanged(t, v, what+" of the node 61", api.ErrMany, do)
	}
	want(t, "Mkdir of what is there", v.Mkdir("/a"), api.ErrThere)
	must(t, v.Write("/l", 0, []byte("l")))
	must(t, v.Link("/a/x0", "/m"))
	must(t, v.Move("/m", "/c/d0/m"))
	must(t, v.Remove("/a/x0"))
	want(t, "Mkdir, with one link less", v.Mkdir("/y"), api.ErrMany)
	must(t, v.Remove("/l"))
	want(t, "Mkdir, with two links less", v.Mkdir("/y"), api.ErrMany)
	must(t, v.Remove("/c/d0/m"))
	must(t, v.Mkdir("/y"))
	want(t, "Write, with the place taken", v.Write("/z", 0, nil), api.ErrMany)
	must(t, v.Remove("/c/d1"))
	must(t, v.Write("/z", 0, nil))
	want(t, "Mkdir, with the place taken", v.Mkdir("/w"), api.ErrMany)
}

// TestP4Links: MaxLinks, of entries of all directories, directories' own ones too.
func TestP4Links(t *testing.T) {
	v := volume(t, "/q", "/d0/", "/d1/", "/d2/", "/d3/", "/d4/")
	for i := 6; i < api.MaxLinks; i++ {
		must(t, v.Link("/q", fmt.Sprintf("/d%d/l%d", i%5, i)))
	}
	if got := stat(t, v, "/q"); got != "q:2:95" {
		t.Fatalf("a file of many links: %s", got)
	}
	for what, do := range map[string]func() api.Errno{
		"Link":  func() api.Errno { return v.Link("/q", "/y") },
		"Mkdir": func() api.Errno { return v.Mkdir("/y") },
		"Write": func() api.Errno { return v.Write("/y", 0, nil) },
		"deep":  func() api.Errno { return v.Link("/q", "/d0/y") },
	} {
		unchanged(t, v, what+" of the entry 101", api.ErrMany, do)
	}
	want(t, "Link to what is there", v.Link("/q", "/d0"), api.ErrThere)
	must(t, v.Move("/q", "/y"))
	must(t, v.Move("/d0/l10", "/d1/l10"))
	must(t, v.Write("/y", 0, []byte("some more")))
	must(t, v.Remove("/d1/l10"))
	must(t, v.Mkdir("/z"))
	want(t, "Link, with the place taken", v.Link("/y", "/q"), api.ErrMany)
	must(t, v.Remove("/z"))
	must(t, v.Write("/z", 0, nil))
	want(t, "Write, with the place taken", v.Write("/w", 0, nil), api.ErrMany)
	must(t, v.Remove("/z"))
	must(t, v.Link("/y", "/z"))
}

// TestP4Depth: Move of what has something within, up to MaxDepth names and beyond.
func TestP4Depth(t *testing.T) {
	for height := range 4 {
		for _, file := range []bool{false, true} {
			v := volume(t, "/0/", "/0/1/", "/0/1/2/", "/0/1/2/3/", "/0/1/2/3/4/", "/a/", "/a/a/", "/a/z/")
			if height == 0 {
				must(t, v.Remove("/a/a"))
				must(t, v.Remove("/a/z"))
			}
			path := "/a/m"
			for i := range height {
				if file && i == height-1 {
					must(t, v.Write(path, 0, []byte("deep")))
				} else {
					must(t, v.Mkdir(path))
				}
				path += "/m"
			}
			for depth, to := range []string{"/y", "/0/y", "/0/1/y", "/0/1/2/y", "/0/1/2/3/y", "/0/1/2/3/4/y"} {
				what := fmt.Sprintf("Move of %d names within to %s", height, to)
				if depth+1+height > api.MaxDepth {
					unchanged(t, v, what, api.ErrMany, func() api.Errno { return v.Move("/a", to) })
					continue
				}
				want(t, what, v.Move("/a", to), api.OK)
				want(t, what+" and back", v.Move(to, "/a"), api.OK)
			}
		}
	}
}

// TestP4DepthOrder: what is there is told ahead of what would be too deep; a file and what stands within a file's own directory are not.
func TestP4DepthOrder(t *testing.T) {
	v := volume(t, "/a/", "/a/b/", "/0/", "/0/1/", "/0/1/2/", "/0/1/2/3/", "/0/1/2/3/4/", "/0/1/2/3/4/5/", "/f")
	want(t, "Move of a directory to what is there", v.Move("/a", "/0/1/2/3/4/5"), api.ErrThere)
	want(t, "Move of a directory too deep", v.Move("/a", "/0/1/2/3/4/a"), api.ErrMany)
	must(t, v.Move("/f", "/0/1/2/3/4/f"))
	must(t, v.Move("/a/b", "/0/1/2/3/4/b"))
	must(t, v.Move("/0/1/2/3/4", "/0/1/2/3/x"))
	want(t, "Move of a deep directory deeper", v.Move("/0/1", "/a/1"), api.OK)
	must(t, v.Move("/a/1/2/3/x/f", "/f"))
	if got := content(t, v, "/f"); got != "/f" {
		t.Errorf("the moved file: %q", got)
	}
}
