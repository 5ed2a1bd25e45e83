package promises

import (
	"bytes"
	"fmt"
	"math"
	"testing"

	"silt/api"
)

func TestP6Read(t *testing.T) {
	v := volume(t)
	whole := bytes.Repeat([]byte("0123456789abc"), 20)[:200]
	must(t, v.Write("/f", 0, whole))
	must(t, v.Write("/e", 0, nil))
	for _, at := range []int{0, 1, 63, 64, 65, 127, 128, 199, 200, 201, 1280, 1281, math.MaxInt - 1, math.MaxInt} {
		for _, n := range []int{0, 1, 2, 64, 72, 73, 136, 199, 200, 201, 1280, 1281, math.MaxInt - 1, math.MaxInt} {
			from := min(at, 200)
			part := whole[from:]
			part = part[:min(n, len(part))]
			got, e := v.Read("/f", at, n)
			if e != api.OK || !bytes.Equal(got, part) {
				t.Errorf("Read(%d, %d): %q, error %d, want %q", at, n, got, e, part)
			}
			if got, e := v.Read("/e", at, n); e != api.OK || len(got) != 0 {
				t.Errorf("Read(%d, %d) of an empty file: %q, error %d", at, n, got, e)
			}
		}
	}
}

func TestP6ReadErrors(t *testing.T) {
	v := volume(t, "/d/", "/f")
	for _, p := range []string{"/f", "/x", "/d", "/", "/f/x", "/x/y"} {
		for _, c := range []struct{ at, n int }{{-1, 0}, {0, -1}, {-1, -1}, {math.MinInt, 1}, {1, math.MinInt}, {-1, math.MaxInt}, {math.MaxInt, -1}} {
			got, e := v.Read(p, c.at, c.n)
			want(t, fmt.Sprintf("Read(%s, %d, %d): %q", p, c.at, c.n, got), e, api.ErrRange)
		}
	}
	for _, c := range []struct {
		path string
		e    api.Errno
	}{{"/x", api.ErrNone}, {"/d", api.ErrDir}, {"/", api.ErrDir}, {"/f/x", api.ErrFile}, {"/x/y", api.ErrNone}, {"", api.ErrPath}} {
		for _, n := range []int{0, 1, math.MaxInt} {
			got, e := v.Read(c.path, n, n)
			want(t, fmt.Sprintf("Read(%s, %d, %d): %q", c.path, n, n, got), e, c.e)
		}
	}
}

func TestP6Stat(t *testing.T) {
	v := volume(t, "/d/", "/d/e/", "/d/e/f", "/d/g", "/h")
	must(t, v.Link("/d/g", "/d/e/abcdefghijkl"))
	must(t, v.Cut("/h", 1280))
	for path, want := range map[string]api.Entry{
		"/":                 {Name: "", Dir: true, Size: 2, Links: 1},
		"/d":                {Name: "d", Dir: true, Size: 2, Links: 1},
		"/d/e":              {Name: "e", Dir: true, Size: 2, Links: 1},
		"/d/e/f":            {Name: "f", Size: 6, Links: 1},
		"/d/g":              {Name: "g", Size: 4, Links: 2},
		"/d/e/abcdefghijkl": {Name: "abcdefghijkl", Size: 4, Links: 2},
		"/h":                {Name: "h", Size: 1280, Links: 1},
	} {
		if got, e := v.Stat(path); e != api.OK || got != want {
			t.Errorf("Stat(%s): %+v, error %d, want %+v", path, got, e, want)
		}
	}
	for path, e := range map[string]api.Errno{"/x": api.ErrNone, "/d/x": api.ErrNone, "/x/y": api.ErrNone, "/h/x": api.ErrFile, "/h/": api.ErrPath} {
		_, got := v.Stat(path)
		want(t, "Stat of "+path, got, e)
	}
}

// TestP6List: the entries by their names, byte by byte, in whatever order they were made.
func TestP6List(t *testing.T) {
	v := volume(t, "/d/", "/d/b/", "/d/aa", "/d/_", "/d/a", "/d/z9/", "/d/a.", "/d/0", "/d/a0", "/d/-", "/d/a-", "/d/9", "/d/10", "/d/...", "/d/a_", "/d/b/c", "/d/b/a")
	const order = "- ... 0 10 9 _ a a- a. a0 a_ aa b z9"
	if got := names(t, v, "/d"); got != order {
		t.Errorf("names %q, want %q", got, order)
	}
	must(t, v.Link("/d/0", "/d/5"))
	must(t, v.Remove("/d/aa"))
	must(t, v.Move("/d/_", "/d/zz"))
	if got := names(t, v, "/d"); got != "- ... 0 10 5 9 a a- a. a0 a_ b z9 zz" {
		t.Errorf("names %q", got)
	}
	list, e := v.List("/d")
	if e != api.OK || len(list) != 14 || list[2] != (api.Entry{Name: "0", Size: 4, Links: 2}) || list[11] != (api.Entry{Name: "b", Dir: true, Size: 2, Links: 1}) || list[12] != (api.Entry{Name: "z9", Dir: true, Links: 1}) || list[13] != (api.Entry{Name: "zz", Size: 4, Links: 1}) {
		t.Errorf("List: %+v, error %d", list, e)
	}
	if list, e := v.List("/d/z9"); e != api.OK || len(list) != 0 {
		t.Errorf("List of an empty directory: %+v, error %d", list, e)
	}
	for path, e := range map[string]api.Errno{"/x": api.ErrNone, "/d/x": api.ErrNone, "/d/a": api.ErrFile, "/d/a/x": api.ErrFile, "/x/y": api.ErrNone, "d": api.ErrPath} {
		_, got := v.List(path)
		want(t, "List of "+path, got, e)
	}
}

// TestP6Usage: each file's last block counts whole, a file of no bytes fills none, one of two links counts once.
func TestP6Usage(t *testing.T) {
	v := volume(t, "/d/")
	sum := 0
	for i, c := range []struct{ size, blocks int }{{0, 0}, {1, 1}, {63, 1}, {64, 1}, {65, 2}, {127, 2}, {128, 2}, {129, 3}, {1216, 19}, {1217, 20}, {1279, 20}, {1280, 20}} {
		p := fmt.Sprintf("/d/f%d", i)
		must(t, v.Write(p, 0, nil))
		must(t, v.Cut(p, c.size))
		sum += c.blocks
		if got := v.Usage(); got != sum {
			t.Errorf("usage %d with a file of %d bytes more, want %d", got, c.size, sum)
		}
	}
	must(t, v.Link("/d/f4", "/l"))
	must(t, v.Mkdir("/e"))
	must(t, v.Move("/d/f5", "/e/f5"))
	if got := v.Usage(); got != sum {
		t.Errorf("usage %d with a link more, want %d", got, sum)
	}
	must(t, v.Remove("/d/f4"))
	if got := v.Usage(); got != sum {
		t.Errorf("usage %d with a link less, want %d", got, sum)
	}
	must(t, v.Remove("/l"))
	must(t, v.Cut("/d/f11", 64))
	must(t, v.Write("/e/f5", 128, []byte("x")))
	if got := v.Usage(); got != sum-2-19+1 {
		t.Errorf("usage %d, want %d", got, sum-2-19+1)
	}
}

// TestExample: the document's first example.
func TestExample(t *testing.T) {
	v := volume(t)
	must(t, v.Mkdir("/a"))
	must(t, v.Write("/a/f", 3, []byte("xyz")))
	if b, e := v.Read("/a/f", 0, 9); e != api.OK || string(b) != "\x00\x00\x00xyz" {
		t.Errorf("Read: %q, error %d", b, e)
	}
	if got := stat(t, v, "/a/f"); got != "f:6:1" || v.Usage() != 1 {
		t.Errorf("Stat: %s, usage %d", got, v.Usage())
	}
	must(t, v.Link("/a/f", "/g"))
	if got := stat(t, v, "/g"); got != "g:6:2" {
		t.Errorf("Stat: %s", got)
	}
	want(t, "Remove", v.Remove("/a"), api.ErrBusy)
	want(t, "Move", v.Move("/a", "/a/b"), api.ErrBusy)
	want(t, "Write in a file", v.Write("/a/f/x", 0, nil), api.ErrFile)
	want(t, "Write in nothing", v.Write("/b/x", 0, nil), api.ErrNone)
	must(t, v.Cut("/g", 65))
	if got := stat(t, v, "/a/f"); got != "f:65:2" || v.Usage() != 2 {
		t.Errorf("Stat: %s, usage %d", got, v.Usage())
	}
}
