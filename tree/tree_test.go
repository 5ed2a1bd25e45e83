package tree

import (
	"testing"
	"unsafe"

	"silt/api"
)

// TestNamesAreOwn lays paths into bytes that change behind the call: names that were kept from them would change too (P2).
func TestNamesAreOwn(t *testing.T) {
	tr := New()
	given := func(path string, do func(path string) api.Errno) {
		t.Helper()
		room := []byte(path)
		if e := do(unsafe.String(&room[0], len(room))); e != api.OK {
			t.Fatalf("%s: %d", path, e)
		}
		for i := range room {
			room[i] = '#'
		}
	}
	given("/dir", tr.Mkdir)
	given("/file", func(p string) api.Errno { return tr.Write(p, 0, nil) })
	given("/link", func(p string) api.Errno { return tr.Link("/file", p) })
	given("/moved", func(p string) api.Errno { return tr.Move("/dir", p) })
	list, _ := tr.List("/")
	for i, want := range []string{"file", "link", "moved"} {
		if list[i].Name != want {
			t.Errorf("the name %d is %q, want %q", i, list[i].Name, want)
		}
	}
}

// TestToldNamesAreNew: a name that is told is neither a part of the path that was asked for, nor the one that is kept (P2).
func TestToldNamesAreNew(t *testing.T) {
	tr := New()
	tr.Mkdir("/dir")
	room := []byte("/dir")
	told, _ := tr.Stat(unsafe.String(&room[0], len(room)))
	room[1] = '#'
	list, _ := tr.List("/")
	if told.Name != "dir" || list[0].Name != "dir" {
		t.Errorf("names %q and %q", told.Name, list[0].Name)
	}
	for kept := range tr.root.entries.All() {
		if unsafe.StringData(kept) == unsafe.StringData(list[0].Name) {
			t.Error("the name that is kept was handed out")
		}
	}
}

// TestTakenBack looks at what no call tells: that nothing is left of a file that was not made (P1).
func TestTakenBack(t *testing.T) {
	tr := New()
	for _, p := range []string{"/a", "/b", "/c", "/d", "/e", "/f", "/g", "/h"} {
		if e := tr.Write(p, 0, make([]byte, api.MaxFile)); e != api.OK {
			t.Fatalf("%s: %d", p, e)
		}
	}
	if e := tr.Write("/x", 0, []byte("x")); e != api.ErrFull {
		t.Fatalf("above Capacity: %d", e)
	}
	if tr.files.Len() != 8 || tr.root.entries.Len() != 8 || tr.Usage() != api.Capacity {
		t.Errorf("%d files, %d entries", tr.files.Len(), tr.root.entries.Len())
	}
}

// TestNumbers: files have numbers of their own, and those of files that are gone are given again.
func TestNumbers(t *testing.T) {
	tr := New()
	for _, p := range []string{"/a", "/b", "/c"} {
		tr.Write(p, 0, []byte(p))
	}
	tr.Link("/b", "/l")
	tr.Remove("/b")
	tr.Remove("/a")
	tr.Write("/d", 0, []byte("/d"))
	var numbers []int
	var datas string
	for n, f := range tr.files.All() {
		numbers = append(numbers, n)
		datas += string(f.data)
	}
	if len(numbers) != 3 || numbers[0] != 0 || numbers[2] != 2 || datas != "/d/b/c" {
		t.Errorf("files %d: %s", numbers, datas)
	}
}
