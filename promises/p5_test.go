package promises

import (
	"bytes"
	"fmt"
	"math"
	"strings"
	"testing"

	"silt/api"
)

func zeros(n int) string { return strings.Repeat("\x00", n) }

// TestP5Write: one file, and what it holds behind each Write.
func TestP5Write(t *testing.T) {
	v := volume(t)
	for i, c := range []struct {
		at         int
		data, want string
	}{
		{7, "", ""}, {3, "xyz", "\x00\x00\x00xyz"}, {1, "ab", "\x00abxyz"}, {0, "", "\x00abxyz"}, {6, "", "\x00abxyz"}, {9, "", "\x00abxyz"}, {1280, "", "\x00abxyz"},
		{5, "123", "\x00abxy123"}, {8, "4", "\x00abxy1234"}, {0, "Q", "Qabxy1234"}, {11, "end", "Qabxy1234\x00\x00end"}, {0, "abcdefghijklmn", "abcdefghijklmn"},
		{64, "b", "abcdefghijklmn" + zeros(50) + "b"}, {1279, "z", "abcdefghijklmn" + zeros(50) + "b" + zeros(1214) + "z"},
	} {
		must(t, v.Write("/f", c.at, []byte(c.data)))
		if got := content(t, v, "/f"); got != c.want {
			t.Errorf("case %d: holds %q, want %q", i, got, c.want)
		}
		if got, want := stat(t, v, "/f"), fmt.Sprintf("f:%d:1", len(c.want)); got != want {
			t.Errorf("case %d: %s, want %s", i, got, want)
		}
	}
	if got := names(t, v, "/"); got != "f" {
		t.Errorf("names: %s", got)
	}
}

func TestP5WriteRange(t *testing.T) {
	v := volume(t, "/d/", "/f")
	for _, p := range []string{"/f", "/new", "/d", "/", "/x/y", "/f/y"} {
		for _, c := range []struct{ at, n int }{{-1, 0}, {-1, 1}, {-1, 2}, {math.MinInt, 0}, {math.MinInt, 1}, {0, 1281}, {1, 1280}, {1279, 2}, {1280, 1}, {1281, 0}, {1281, 1}, {math.MaxInt, 0}, {math.MaxInt, 1}, {math.MaxInt - 1, 2}, {math.MaxInt - 100, 1280}, {1 << 62, 1280}, {-1281, 1281}, {-5, 10}, {0, 100000}} {
			unchanged(t, v, fmt.Sprintf("Write(%s, %d, %d bytes)", p, c.at, c.n), api.ErrRange, func() api.Errno { return v.Write(p, c.at, make([]byte, c.n)) })
		}
	}
	for i, c := range []struct{ at, n int }{{0, 1280}, {1, 1279}, {1279, 1}, {1280, 0}, {640, 640}, {0, 0}} {
		p := fmt.Sprintf("/ok%d", i)
		want(t, fmt.Sprintf("Write(%d, %d bytes)", c.at, c.n), v.Write(p, c.at, bytes.Repeat([]byte("x"), c.n)), api.OK)
		got := content(t, v, p)
		if c.n > 0 && got != zeros(c.at)+strings.Repeat("x", c.n) || c.n == 0 && got != "" {
			t.Errorf("Write(%d, %d bytes): holds %q", c.at, c.n, got)
		}
	}
}

func TestP5WriteErrors(t *testing.T) {
	v := volume(t, "/d/", "/d/e/", "/f")
	for _, c := range []struct {
		path string
		e    api.Errno
	}{{"/d", api.ErrDir}, {"/d/e", api.ErrDir}, {"/", api.ErrDir}, {"/f/x", api.ErrFile}, {"/x/y", api.ErrNone}, {"/d/", api.ErrPath}} {
		for _, data := range []string{"", "data"} {
			unchanged(t, v, "Write of "+c.path, c.e, func() api.Errno { return v.Write(c.path, 0, []byte(data)) })
		}
	}
	must(t, v.Write("/d/e/new", 2, nil))
	must(t, v.Write("/d/new", 2, []byte{}))
	if got := stat(t, v, "/d/e/new") + stat(t, v, "/d/new"); got != "new:0:1new:0:1" {
		t.Errorf("files of nothing: %s", got)
	}
}

// TestP5Cut: one file, and what it holds behind each Cut; no byte that was cut comes back.
func TestP5Cut(t *testing.T) {
	v := volume(t)
	must(t, v.Write("/f", 0, []byte("abcdefgh")))
	for i, c := range []struct {
		size int
		want string
	}{{8, "abcdefgh"}, {6, "abcdef"}, {7, "abcdef\x00"}, {2, "ab"}, {5, "ab\x00\x00\x00"}, {65, "ab" + zeros(63)}, {1280, "ab" + zeros(1278)}, {1, "a"}, {0, ""}, {0, ""}, {3, zeros(3)}} {
		must(t, v.Cut("/f", c.size))
		if got := content(t, v, "/f"); got != c.want {
			t.Errorf("case %d: holds %q, want %q", i, got, c.want)
		}
	}
	must(t, v.Write("/f", 0, []byte("abcdefgh")))
	must(t, v.Cut("/f", 2))
	must(t, v.Write("/f", 5, []byte("z")))
	if got := content(t, v, "/f"); got != "ab\x00\x00\x00z" {
		t.Errorf("a Write behind what was cut: %q", got)
	}
	must(t, v.Write("/g", 0, bytes.Repeat([]byte("g"), 200)))
	must(t, v.Cut("/g", 70))
	must(t, v.Write("/g", 130, []byte("h")))
	if got := content(t, v, "/g"); got != strings.Repeat("g", 70)+zeros(60)+"h" {
		t.Errorf("a Write blocks behind what was cut: %q", got)
	}
}

func TestP5CutErrors(t *testing.T) {
	v := volume(t, "/d/", "/f")
	for _, p := range []string{"/f", "/x", "/d", "/", "/x/y", "/f/y"} {
		for _, n := range []int{-1, math.MinInt, 1281, math.MaxInt, -1280} {
			unchanged(t, v, fmt.Sprintf("Cut(%s, %d)", p, n), api.ErrRange, func() api.Errno { return v.Cut(p, n) })
		}
	}
	for _, c := range []struct {
		path string
		e    api.Errno
	}{{"/x", api.ErrNone}, {"/d/x", api.ErrNone}, {"/d", api.ErrDir}, {"/", api.ErrDir}, {"/f/x", api.ErrFile}, {"/x/y", api.ErrNone}, {"f", api.ErrPath}} {
		for _, n := range []int{0, 7, 1280} {
			unchanged(t, v, fmt.Sprintf("Cut(%s, %d)", c.path, n), c.e, func() api.Errno { return v.Cut(c.path, n) })
		}
	}
}

// TestP5Full: what is done at Capacity, and what is not.
func TestP5Full(t *testing.T) {
	v := fullDisk(t)
	must(t, v.Link("/b0", "/l"))
	unchanged(t, v, "Write of a new file", api.ErrFull, func() api.Errno { return v.Write("/new", 0, []byte("x")) })
	must(t, v.Write("/empty", 1280, nil))
	unchanged(t, v, "Write into an empty file", api.ErrFull, func() api.Errno { return v.Write("/empty", 0, []byte("x")) })
	unchanged(t, v, "Cut of an empty file", api.ErrFull, func() api.Errno { return v.Cut("/empty", 1) })
	must(t, v.Cut("/empty", 0))
	must(t, v.Write("/b1", 0, bytes.Repeat([]byte("n"), 1280)))
	must(t, v.Write("/l", 1279, []byte("n")))
	if n := v.Usage(); n != api.Capacity {
		t.Errorf("usage %d", n)
	}
	must(t, v.Cut("/b1", 1217))
	unchanged(t, v, "Cut, as the last block counts whole", api.ErrFull, func() api.Errno { return v.Cut("/empty", 1) })
	must(t, v.Cut("/b1", 1216))
	must(t, v.Cut("/empty", 1))
	must(t, v.Cut("/empty", 64))
	must(t, v.Write("/empty", 63, []byte("x")))
	unchanged(t, v, "Write that begins a block", api.ErrFull, func() api.Errno { return v.Write("/empty", 64, []byte("x")) })
	unchanged(t, v, "Write that changes bytes, and begins a block", api.ErrFull, func() api.Errno { return v.Write("/empty", 60, []byte("xxxxxx")) })
	unchanged(t, v, "Write beyond", api.ErrFull, func() api.Errno { return v.Write("/b1", 1279, []byte("x")) })
	unchanged(t, v, "Cut that begins a block", api.ErrFull, func() api.Errno { return v.Cut("/empty", 65) })
	must(t, v.Remove("/b0"))
	unchanged(t, v, "Write, with one link less", api.ErrFull, func() api.Errno { return v.Write("/new", 0, []byte("x")) })
	must(t, v.Remove("/l"))
	unchanged(t, v, "Write of one block too many, in a gap", api.ErrFull, func() api.Errno {
		must(t, v.Write("/gap", 0, []byte("x")))
		defer v.Remove("/gap")
		return v.Write("/new", 1279, []byte("x"))
	})
	must(t, v.Write("/new", 1279, []byte("x")))
	if n := v.Usage(); n != api.Capacity {
		t.Errorf("usage %d", n)
	}
}

// TestP5ManyWrite: ErrMany of a new file as with Mkdir, and of no other.
func TestP5ManyWrite(t *testing.T) {
	v := volume(t, "/d/")
	fill(t, v, "/d", "x", api.MaxEntries)
	unchanged(t, v, "Write of a new file in a full directory", api.ErrMany, func() api.Errno { return v.Write("/d/y", 0, []byte("y")) })
	must(t, v.Write("/d/x7", 0, []byte("y")))
	must(t, v.Cut("/d/x8", 100))
	must(t, v.Remove("/d/x9"))
	must(t, v.Write("/d/y", 0, []byte("y")))
}
