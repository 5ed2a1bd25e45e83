package promises

import (
	"bytes"
	"fmt"
	"slices"
	"testing"
	"unsafe"

	"silt/api"
)

// TestP2HandedIn: bytes that are written are not written into, nor what stands behind them, nor kept.
func TestP2HandedIn(t *testing.T) {
	v := volume(t)
	room := []byte("....data behind")
	data := room[4:8]
	must(t, v.Write("/f", 0, data))
	must(t, v.Write("/g", 70, data))
	must(t, v.Write("/f", 2, data))
	must(t, v.Write("/h", 0, data[:0]))
	must(t, v.Write("/h", 0, data[:1]))
	must(t, v.Cut("/h", 9))
	must(t, v.Write("/i", 0, data))
	must(t, v.Cut("/i", 9))
	must(t, v.Write("/i", 6, []byte("xy")))
	want(t, "Write too far", v.Write("/f", 1279, data), api.ErrRange)
	if string(room) != "....data behind" {
		t.Errorf("what was handed in: %q", room)
	}
	for i := range room {
		room[i] = '#'
	}
	for path, want := range map[string]string{"/f": "dadata", "/h": "d\x00\x00\x00\x00\x00\x00\x00\x00", "/i": "data\x00\x00xy\x00"} {
		if got := content(t, v, path); got != want {
			t.Errorf("%s holds %q, want %q", path, got, want)
		}
	}
	if got := content(t, v, "/g"); got[70:] != "data" {
		t.Errorf("/g holds %q", got)
	}
}

// TestP2Read: what is read is new memory, spare room too.
func TestP2Read(t *testing.T) {
	v := volume(t)
	must(t, v.Write("/f", 0, []byte("abcdefgh")))
	must(t, v.Link("/f", "/g"))
	must(t, v.Cut("/f", 6))
	before := state(t, v)
	for at := range 8 {
		for n := range 8 {
			b, e := v.Read("/f", at, n)
			must(t, e)
			whole := b[:cap(b)]
			for i := range whole {
				whole[i] = '#'
			}
			if after := state(t, v); after != before {
				t.Fatalf("Read(%d, %d) gave what is held:\n%s", at, n, after)
			}
		}
	}
	a, _ := v.Read("/f", 0, 6)
	b, _ := v.Read("/f", 0, 6)
	must(t, v.Write("/f", 0, []byte("123456")))
	must(t, v.Cut("/f", 2))
	must(t, v.Write("/f", 5, []byte("!")))
	if string(a) != "abcdef" || string(b) != "abcdef" {
		t.Errorf("what was read is now %q and %q", a, b)
	}
	a[0] = '#'
	if b[0] != 'a' {
		t.Error("two answers share memory")
	}
}

// TestP2List: what is listed is new memory, spare room too.
func TestP2List(t *testing.T) {
	v := volume(t, "/a/", "/b", "/c")
	before := state(t, v)
	list, _ := v.List("/")
	kept := slices.Clone(list)
	again, _ := v.List("/")
	whole := list[:cap(list)]
	for i := range whole {
		whole[i] = api.Entry{Name: "#", Size: 9}
	}
	if !slices.Equal(again, kept) {
		t.Errorf("two answers share memory: %+v", again)
	}
	if after := state(t, v); after != before {
		t.Errorf("is now\n%s\nand was\n%s", after, before)
	}
	must(t, v.Remove("/b"))
	must(t, v.Write("/d", 0, []byte("d")))
	must(t, v.Move("/a", "/e"))
	if !slices.Equal(again, kept) {
		t.Errorf("what was listed is now %+v", again)
	}
}

// TestP2Volumes: they know nothing of each other: neither what is held nor what there may be.
func TestP2Volumes(t *testing.T) {
	v, w := volume(t), volume(t)
	empty := state(t, w)
	must(t, v.Mkdir("/d"))
	must(t, v.Write("/d/f", 0, []byte("v")))
	if got := state(t, w); got != empty {
		t.Errorf("what one Volume did is in another: %s", got)
	}
	must(t, w.Mkdir("/d"))
	must(t, w.Write("/d/f", 0, []byte("w")))
	must(t, w.Link("/d/f", "/l"))
	must(t, v.Cut("/d/f", 2))
	if a, b := content(t, v, "/d/f"), content(t, w, "/d/f"); a != "v\x00" || b != "w" {
		t.Errorf("two Volumes hold %q and %q", a, b)
	}
	if got := stat(t, v, "/d/f"); got != "f:2:1" {
		t.Errorf("a link of another Volume's file: %s", got)
	}
	must(t, v.Remove("/d/f"))
	if got := stat(t, w, "/d/f"); got != "f:1:2" {
		t.Errorf("a file of another Volume: %s", got)
	}
	for i := range 12 {
		v := fullDisk(t)
		fill(t, v, "", "x", api.MaxEntries-8)
		want(t, fmt.Sprint("Volume ", i), v.Write("/y", 0, nil), api.ErrMany)
	}
	if got := state(t, volume(t)); got != empty {
		t.Errorf("a new Volume holds: %s", got)
	}
}

// TestP2Images: an image that is handed in is neither written into nor kept, and one that comes out is new memory.
func TestP2Images(t *testing.T) {
	v := volume(t, "/d/", "/d/f", "/g")
	must(t, v.Sync())
	held, good := state(t, v), v.Image()
	room := append(bytes.Clone(good), "behind"...)
	w := opened(t, room[:len(good)])
	first := w.Image()
	must(t, w.Write("/d/f", 0, []byte("other")))
	must(t, w.Sync())
	if !bytes.Equal(room, append(bytes.Clone(good), "behind"...)) {
		t.Error("what was handed in is written into")
	}
	other, image := state(t, w), w.Image()
	clear(room)
	told := w.Broken(0, nil)
	for _, bytes := range [][]byte{w.Image(), w.Broken(-1, nil), w.Broken(0, nil), w.Broken(99, nil)} {
		clear(bytes[:cap(bytes)])
	}
	if !bytes.Equal(w.Image(), image) || !bytes.Equal(w.Broken(0, nil), told) || !bytes.Equal(w.Broken(-1, nil), first) || state(t, w) != other {
		t.Error("what is kept was handed in, or out")
	}
	if !bytes.Equal(v.Image(), good) || state(t, v) != held || v.Epochs() == 0 || w.Epochs() == 0 {
		t.Error("two Volumes know of each other")
	}
}

// TestP2Dumps: of a text that is restored nothing is kept, and one that comes out stays as it is.
func TestP2Dumps(t *testing.T) {
	v := volume(t, "/d/", "/d/f", "/g")
	must(t, v.Link("/g", "/l"))
	dump := v.Dump()
	room := []byte(dump)
	w := restored(t, "a text", unsafe.String(&room[0], len(room)))
	x := restored(t, "a text", dump)
	if string(room) != dump {
		t.Error("what was handed in is written into")
	}
	for i := range room {
		room[i] = '#'
	}
	dumps(t, "the text is gone", w, dump)
	keeps(t, "the text is gone", w)
	told := w.Dump()
	must(t, w.Write("/d/f", 0, []byte("other")))
	must(t, w.Move("/d", "/e"))
	if told != dump {
		t.Errorf("what was told is now %q", told)
	}
	dumps(t, "the first Volume", v, dump)
	dumps(t, "another one of the same text", x, dump)
}
