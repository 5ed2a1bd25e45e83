package promises

import (
	"fmt"
	"strings"
	"testing"

	"silt/api"
	"silt/silt"
)

func TestP3Format(t *testing.T) {
	v := volume(t)
	list, e := v.List("/")
	if got := stat(t, v, "/"); got != "/0:1" || e != api.OK || len(list) != 0 || v.Usage() != 0 {
		t.Errorf("a new Volume: %s, %v, error %d, usage %d", got, list, e, v.Usage())
	}
}

// TestP3Bytes: of each byte, whether a name may have it: alone, at the end, at the start and within.
func TestP3Bytes(t *testing.T) {
	const may = "abcdefghijklmnopqrstuvwxyz0123456789._-"
	v := volume(t)
	for i := range 256 {
		b := string([]byte{byte(i)})
		for _, name := range []string{b, "x" + b, b + "x", "x" + b + "x"} {
			e := api.ErrPath
			if strings.Contains(may, b) && name != "." || name == "x/x" {
				e = api.ErrNone
			}
			_, got := v.Stat("/" + name)
			want(t, fmt.Sprintf("Stat(%q)", "/"+name), got, e)
		}
	}
}

func TestP3Shapes(t *testing.T) {
	v := volume(t)
	for n := range 20 {
		e := api.ErrNone
		if n < 1 || n > api.MaxName {
			e = api.ErrPath
		}
		if n > 0 {
			_, got := v.Stat("/" + strings.Repeat("n", n))
			want(t, fmt.Sprintf("a name of %d bytes", n), got, e)
		}
		e = api.ErrNone
		if n < 1 || n > api.MaxDepth {
			e = api.ErrPath
		}
		_, got := v.Stat(strings.Repeat("/n", n))
		want(t, fmt.Sprintf("%d names", n), got, e)
		_, got = v.Stat(strings.Repeat("/abcdefghijkl", n))
		want(t, fmt.Sprintf("%d long names", n), got, e)
	}
	for _, p := range []string{"", "a", "a/b", "//", "///", "/a/", "//a", "/a//b", " /a", "/a ", "/.", "/..", "/a/.", "/a/..", "/./a", "/../a", "/a/b/c/d/e/f/", "/a/../a"} {
		_, e := v.Stat(p)
		want(t, fmt.Sprintf("Stat(%q)", p), e, api.ErrPath)
	}
	for _, p := range []string{"/...", "/....", "/.a", "/..a", "/a.", "/a..", "/-", "/_", "/--", "/0", "/.-_"} {
		must(t, v.Mkdir(p))
		if got := stat(t, v, p); got != p[1:]+"/0:1" {
			t.Errorf("the directory %q: %s", p, got)
		}
	}
}

// calls tells what each call with a path answers to it, with numbers and bytes that may be.
func calls(v *silt.Volume, p string) map[string]api.Errno {
	_, read := v.Read(p, 0, 1)
	_, list := v.List(p)
	_, stat := v.Stat(p)
	return map[string]api.Errno{
		"Mkdir": v.Mkdir(p), "Write": v.Write(p, 0, []byte("q")), "Cut": v.Cut(p, 1), "Remove": v.Remove(p), "Read": read, "List": list, "Stat": stat,
		"Link from": v.Link(p, "/new"), "Move from": v.Move(p, "/new"), "Link to": v.Link("/f", p), "Move to": v.Move("/f", p),
	}
}

// TestP3Ahead: every call, of a text that is no path, and of names ahead of the last one that are not there or files'.
func TestP3Ahead(t *testing.T) {
	v := volume(t, "/d/", "/d/e/", "/f", "/d/g")
	before := state(t, v)
	for _, c := range []struct {
		path string
		e    api.Errno
	}{
		{"", api.ErrPath}, {"f", api.ErrPath}, {"/f/", api.ErrPath}, {"/d/..", api.ErrPath}, {"/f/X", api.ErrPath}, {"/x/X", api.ErrPath}, {"/a/b/c/d/e/f/g", api.ErrPath}, {"/f/abcdefghijklm", api.ErrPath},
		{"/x/y", api.ErrNone}, {"/x/y/z", api.ErrNone}, {"/d/x/y", api.ErrNone}, {"/d/e/x/f", api.ErrNone}, {"/x/f", api.ErrNone}, {"/e/x", api.ErrNone}, {"/a/b/c/d/e/f", api.ErrNone},
		{"/f/x", api.ErrFile}, {"/f/x/y", api.ErrFile}, {"/d/g/x", api.ErrFile}, {"/f/f", api.ErrFile}, {"/d/g/a/b/c/d", api.ErrFile},
	} {
		for call, e := range calls(v, c.path) {
			want(t, fmt.Sprintf("%s of %q", call, c.path), e, c.e)
		}
	}
	if after := state(t, v); after != before {
		t.Errorf("is now\n%s\nand was\n%s", after, before)
	}
}

// TestP3TwoPaths: if one of both is none; the first to its end, then the second.
func TestP3TwoPaths(t *testing.T) {
	v := volume(t, "/d/", "/f")
	for i, c := range []struct {
		from, to   string
		link, move api.Errno
	}{
		{"f", "/q", api.ErrPath, api.ErrPath}, {"/f", "q", api.ErrPath, api.ErrPath}, {"f", "q", api.ErrPath, api.ErrPath}, {"/x", "q", api.ErrPath, api.ErrPath}, {"/x/y", "", api.ErrPath, api.ErrPath}, {"/", "", api.ErrPath, api.ErrPath}, {"", "/", api.ErrPath, api.ErrPath},
		{"/x/y", "/f/z", api.ErrNone, api.ErrNone}, {"/f/y", "/x/z", api.ErrFile, api.ErrFile}, {"/x", "/f/z", api.ErrNone, api.ErrNone}, {"/x", "/f", api.ErrNone, api.ErrNone},
		{"/f", "/x/z", api.ErrNone, api.ErrNone}, {"/f", "/f/z", api.ErrFile, api.ErrFile}, {"/d", "/f/z", api.ErrDir, api.ErrFile}, {"/d", "/x/z", api.ErrDir, api.ErrNone}, {"/", "/x/z", api.ErrDir, api.ErrBusy}, {"/", "/f/z", api.ErrDir, api.ErrBusy},
		{"/f", "/d", api.ErrThere, api.ErrThere}, {"/f", "/f", api.ErrThere, api.ErrThere}, {"/f", "/", api.ErrThere, api.ErrThere}, {"/d", "/d", api.ErrDir, api.ErrThere}, {"/d", "/", api.ErrDir, api.ErrThere},
	} {
		unchanged(t, v, fmt.Sprintf("case %d: Link(%q, %q)", i, c.from, c.to), c.link, func() api.Errno { return v.Link(c.from, c.to) })
		unchanged(t, v, fmt.Sprintf("case %d: Move(%q, %q)", i, c.from, c.to), c.move, func() api.Errno { return v.Move(c.from, c.to) })
	}
}

// TestP3Deep: a path of MaxDepth names is as good as any.
func TestP3Deep(t *testing.T) {
	v := volume(t, "/a/", "/a/b/", "/a/b/c/", "/a/b/c/d/", "/a/b/c/d/e/", "/a/b/c/d/e/f", "/a/b/c/d/e/g/")
	must(t, v.Link("/a/b/c/d/e/f", "/l"))
	must(t, v.Move("/a/b/c/d/e/g", "/a/b/c/d/e/abcdefghijkl"))
	if got := names(t, v, "/a/b/c/d/e"); got != "abcdefghijkl f" {
		t.Errorf("the sixth names: %s", got)
	}
	if got := content(t, v, "/l"); got != "/a/b/c/d/e/f" {
		t.Errorf("the linked file: %q", got)
	}
	want(t, "seven names", v.Mkdir("/a/b/c/d/e/g/h"), api.ErrPath)
}
