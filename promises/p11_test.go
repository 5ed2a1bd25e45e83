package promises

import (
	"bytes"
	"fmt"
	"math/rand"
	"regexp"
	"strconv"
	"strings"
	"testing"

	"silt/api"
	"silt/silt"
)

// dump tells what the model holds.
func (m model) dump() string {
	text := "silt\n"
	told := map[*thing]string{}
	var tell func(dir string)
	tell = func(dir string) {
		for _, p := range m.entries(dir) {
			x := m[p]
			switch {
			case x.dir:
				text += "d " + p + "\n"
				tell(p)
			case told[x] != "":
				text += "l " + p + " " + told[x] + "\n"
			default:
				told[x] = p
				text += fmt.Sprintf("f %s %d\n%s", p, len(x.data), hexLines(x.data))
			}
		}
	}
	tell("/")
	return text
}

func hexLines(data []byte) string {
	text := ""
	for len(data) > 0 {
		n := min(32, len(data))
		text += fmt.Sprintf("%x\n", data[:n])
		data = data[n:]
	}
	return text
}

var aLine = regexp.MustCompile(`^(?:(d) (\S+)|(f) (\S+) (\d{1,4})|(l) (\S+) (\S+)|((?:[0-9a-f]{2})+))$`)

// isDump tells, by the model, whether some Volume has that Dump.
func isDump(text string) bool {
	lines := strings.Split(text, "\n")
	if len(lines) < 2 || lines[len(lines)-1] != "" {
		return false
	}
	m, open := newModel(), ""
	for _, line := range lines[1 : len(lines)-1] {
		x := aLine.FindStringSubmatch(line)
		e := api.ErrDump
		switch {
		case x == nil:
		case x[1] != "":
			e = m.mkdir(x[2])
		case x[3] != "" && m[x[4]] == nil:
			open = x[4]
			e = m.write(open, 0, nil)
		case x[6] != "":
			e = m.link(x[8], x[7])
		case x[9] != "" && open != "":
			e = m.write(open, len(m[open].data), unhex(x[9]))
		}
		if e != api.OK {
			return false
		}
	}
	return m.dump() == text
}

func unhex(text string) []byte {
	var data []byte
	for i := 0; i < len(text); i += 2 {
		b, _ := strconv.ParseUint(text[i:i+2], 16, 8)
		data = append(data, byte(b))
	}
	return data
}

func dumps(t *testing.T, what string, v *silt.Volume, want string) {
	t.Helper()
	if got := v.Dump(); got != want {
		t.Errorf("%s: Dump:\n%swant\n%s", what, got, want)
	}
}

// restored: Restore of a text that must be a Dump; what it gives must hold and keep just that.
func restored(t *testing.T, what string, dump string) *silt.Volume {
	t.Helper()
	v, e := silt.Restore(dump)
	if v == nil || e != api.OK {
		t.Fatalf("%s: Restore: error %d, of\n%s", what, e, dump)
	}
	dumps(t, what+", restored", v, dump)
	image := v.Image()
	dumps(t, what+", restored and opened", opened(t, image), dump)
	if v.Epochs() != 0 || v.Writes(0) != 0 || !bytes.Equal(v.Broken(-1, nil), image) || !bytes.Equal(v.Broken(0, []bool{true}), image) {
		t.Errorf("%s: %d epochs, and %d blocks written", what, v.Epochs(), v.Writes(0))
	}
	checked(t, image)
	return v
}

func noDump(t *testing.T, what string, text string) {
	t.Helper()
	if v, e := silt.Restore(text); v != nil || e != api.ErrDump {
		t.Errorf("%s: Restore: Volume %v, error %d, want %d, of\n%q", what, v != nil, e, api.ErrDump, text)
	}
}

// again restores what a Volume dumps, and holds both against each other.
func again(t *testing.T, what string, v *silt.Volume) *silt.Volume {
	t.Helper()
	w := restored(t, what, v.Dump())
	if got, want := state(t, w), state(t, v); got != want {
		t.Errorf("%s: it holds\n%s\nwant\n%s", what, got, want)
	}
	return w
}

// TestP11Example: the document's example, step by step.
func TestP11Example(t *testing.T) {
	v := volume(t)
	dumps(t, "an empty root", v, "silt\n")
	again(t, "an empty root", v)
	must(t, v.Mkdir("/a"))
	dumps(t, "a directory", v, "silt\nd /a\n")
	must(t, v.Write("/a/f", 3, []byte("xyz")))
	dumps(t, "a file", v, "silt\nd /a\nf /a/f 6\n00000078797a\n")
	must(t, v.Link("/a/f", "/g"))
	dumps(t, "a link", v, "silt\nd /a\nf /a/f 6\n00000078797a\nl /g /a/f\n")
	must(t, v.Cut("/g", 65))
	zeros := strings.Repeat("00", 26)
	dumps(t, "the example", v, "silt\nd /a\nf /a/f 65\n00000078797a"+zeros+"\n000000000000"+zeros+"\n00\nl /g /a/f\n")
	w := again(t, "the example", v)
	must(t, w.Write("/g", 0, []byte("W")))
	if got := content(t, w, "/a/f"); got[:6] != "W\x00\x00xyz" {
		t.Errorf("the other link's file is %q", got)
	}
}

// TestP11Directories: by their names, each followed by what stands in it; a path is not ordered as a text.
func TestP11Directories(t *testing.T) {
	v := volume(t, "/d/", "/d/a/", "/d/z/", "/d-/", "/d-/x/", "/d.x/", "/d0/", "/dd/", "/...", "/-/", "/_/", "/0/", "/a/", "/d/a/b/", "/d/a/b/c/", "/d/a/b/c/d/", "/d/a/b/c/d/abcdefghijkl/")
	must(t, v.Cut("/...", 0))
	dumps(t, "directories", v, "silt\nd /-\nf /... 0\nd /0\nd /_\nd /a\nd /d\nd /d/a\nd /d/a/b\nd /d/a/b/c\nd /d/a/b/c/d\nd /d/a/b/c/d/abcdefghijkl\nd /d/z\nd /d-\nd /d-/x\nd /d.x\nd /d0\nd /dd\n")
	again(t, "directories", v)
}

// TestP11Sizes: lines of 32 bytes, of which the last may have fewer.
func TestP11Sizes(t *testing.T) {
	for _, size := range []int{0, 1, 2, 31, 32, 33, 63, 64, 65, 95, 96, 97, 128, 1247, 1248, 1249, 1279, 1280} {
		v := volume(t)
		data := make([]byte, size)
		for i := range data {
			data[i] = byte(i*37 + size)
		}
		must(t, v.Write("/f", 0, data))
		must(t, v.Write("/g", 0, []byte("\n")))
		what := fmt.Sprint("size ", size)
		dumps(t, what, v, fmt.Sprintf("silt\nf /f %d\n%sf /g 1\n0a\n", size, hexLines(data)))
		again(t, what, v)
	}
}

// TestP11Links: the first path is the one by which a file is told, whichever was there first.
func TestP11Links(t *testing.T) {
	v := volume(t, "/m", "/d/", "/d/e/")
	must(t, v.Link("/m", "/z"))
	dumps(t, "behind it", v, "silt\nd /d\nd /d/e\nf /m 2\n2f6d\nl /z /m\n")
	must(t, v.Link("/z", "/d/x"))
	dumps(t, "within a directory", v, "silt\nd /d\nd /d/e\nf /d/x 2\n2f6d\nl /m /d/x\nl /z /d/x\n")
	must(t, v.Link("/z", "/a"))
	must(t, v.Write("/b", 0, nil))
	must(t, v.Link("/b", "/d/e/b"))
	all := "silt\nf /a 2\n2f6d\nf /b 0\nd /d\nd /d/e\nl /d/e/b /b\nl /d/x /a\nl /m /a\nl /z /a\n"
	dumps(t, "ahead of it, and of two files", v, all)
	again(t, "two files", v)
	must(t, v.Write("/y", 0, []byte("/m")))
	dumps(t, "the same bytes are still another file", v, strings.Replace(all, "l /z", "f /y 2\n2f6d\nl /z", 1))
	again(t, "the same bytes", v)
	must(t, v.Remove("/y"))
	must(t, v.Remove("/a"))
	must(t, v.Remove("/b"))
	dumps(t, "the first ones are gone", v, "silt\nd /d\nd /d/e\nf /d/e/b 0\nf /d/x 2\n2f6d\nl /m /d/x\nl /z /d/x\n")
	must(t, v.Move("/d", "/o"))
	dumps(t, "the directory is elsewhere", v, "silt\nf /m 2\n2f6d\nd /o\nd /o/e\nf /o/e/b 0\nl /o/x /m\nl /z /m\n")
	again(t, "at last", v)
}

// TestP11Held: it tells what is held, kept or not, and who asks changes nothing.
func TestP11Held(t *testing.T) {
	v := volume(t, "/f")
	held, image := state(t, v), v.Image()
	dumps(t, "not kept", v, "silt\nf /f 2\n2f66\n")
	dumps(t, "what was kept", opened(t, image), "silt\n")
	if state(t, v) != held || !bytes.Equal(v.Image(), image) || v.Epochs() != 0 {
		t.Error("something is changed")
	}
	must(t, v.Sync())
	dumps(t, "kept", opened(t, v.Image()), "silt\nf /f 2\n2f66\n")
	must(t, v.Remove("/f"))
	dumps(t, "gone", v, "silt\n")
	v.Clean()
	dumps(t, "cleaned", opened(t, v.Image()), "silt\n")
}

// TestP11Same: the same files have the same Dump, however they came to be.
func TestP11Same(t *testing.T) {
	v := volume(t, "/a/", "/a/f", "/b", "/c")
	must(t, v.Link("/b", "/l"))
	w := volume(t, "/gone", "/c", "/x", "/y/", "/y/f")
	must(t, w.Write("/l", 0, []byte("/b/b")))
	must(t, w.Sync())
	must(t, w.Remove("/gone"))
	must(t, w.Remove("/x"))
	must(t, w.Link("/l", "/b"))
	must(t, w.Cut("/l", 2))
	must(t, w.Move("/y", "/a"))
	must(t, w.Write("/a/f", 0, []byte("/a/f")))
	v.Clean()
	dumps(t, "made otherwise", w, v.Dump())
	must(t, w.Sync())
	dumps(t, "opened", opened(t, w.Image()), v.Dump())
	if a, b := again(t, "one", v), again(t, "other", w); !bytes.Equal(a.Image(), b.Image()) {
		t.Error("one text makes two disks")
	}
}

// TestP11Limits: as much as may be is restored, and no more may be in it than in the first one.
func TestP11Limits(t *testing.T) {
	for name, v := range atLimits(t) {
		w := again(t, name, v)
		for _, p := range []string{"/new", "/abcdefghijka/new", "/d0/new"} {
			want(t, name+": Mkdir "+p, w.Mkdir(p), v.Mkdir(p))
			want(t, name+": Write "+p, w.Write(p+"-", 0, []byte("x")), v.Write(p+"-", 0, []byte("x")))
		}
		dumps(t, name, w, v.Dump())
		keeps(t, name, w)
		cleans(t, name, w)
	}
	v := again(t, "MaxLinks", atLimits(t)["MaxLinks"])
	want(t, "one entry more", v.Link("/b0", "/abcdefghijka/n"), api.ErrMany)
	want(t, "one node more", v.Mkdir("/abcdefghijka/n"), api.ErrMany)
	must(t, v.Remove("/abcdefghijka/x23456789010"))
	want(t, "one block more", v.Write("/abcdefghijka/123456789010", 0, []byte("x")), api.ErrFull)
	must(t, v.Link("/b0", "/abcdefghijka/n"))
}

// manyLines: the head, and one line for each number up to n.
func manyLines(n int, line func(i int) string) string {
	text := "silt\n"
	for i := range n {
		text += line(i)
	}
	return text
}

// TestP11TooMuch: one more than there may be, of each that is limited, and just as much.
func TestP11TooMuch(t *testing.T) {
	block := strings.Repeat(strings.Repeat("00", 32)+"\n", 2)
	deep := func(n int) string {
		return manyLines(n, func(i int) string { return "d " + strings.Repeat("/a", i+1) + "\n" })
	}
	// Each sixth is a directory, with five files in it.
	nodes := func(i int) string {
		if i%6 == 0 {
			return fmt.Sprintf("d /d%02d\n", i/6)
		}
		return fmt.Sprintf("f /d%02d/f%02d 0\n", i/6, i%6)
	}
	// Each twentieth is a directory, with links of one file in it.
	links := func(i int) string {
		switch {
		case i == 0:
			return "f /a 0\n"
		case i%20 == 1:
			return fmt.Sprintf("d /d%02d\n", i/20)
		}
		return fmt.Sprintf("l /d%02d/l%02d /a\n", (i-1)/20, (i-1)%20)
	}
	for _, c := range []struct {
		name  string
		limit int
		text  func(n int) string
	}{
		{"names of a path", 6, deep},
		{"bytes of a name", 12, func(n int) string { return "silt\nd /" + strings.Repeat("a", n) + "\n" }},
		{"bytes of a file", 1280, func(n int) string { return fmt.Sprintf("silt\nf /f %d\n%s", n, hexLines(make([]byte, n))) }},
		{"entries of a directory", 20, func(n int) string { return manyLines(n, func(i int) string { return fmt.Sprintf("d /d%02d\n", i) }) }},
		{"files of a directory", 20, func(n int) string { return manyLines(n, func(i int) string { return fmt.Sprintf("f /f%02d 0\n", i) }) }},
		{"nodes but the root", 59, func(n int) string { return manyLines(n, nodes) }},
		{"entries", 100, func(n int) string { return manyLines(n, links) }},
		{"blocks", 160, func(n int) string {
			text := "silt\n"
			for i := 0; i < n; i += 20 {
				size := min(20, n-i)
				text += fmt.Sprintf("f /f%d %d\n%s", i/20, size*64, strings.Repeat(block, size))
			}
			return text
		}},
	} {
		restored(t, c.name, c.text(c.limit))
		noDump(t, c.name, c.text(c.limit+1))
		if !isDump(c.text(c.limit)) || isDump(c.text(c.limit+1)) {
			t.Errorf("%s: the model tells otherwise", c.name)
		}
	}
}

// TestP11NoDump: what no Volume tells.
func TestP11NoDump(t *testing.T) {
	for what, texts := range map[string][]string{
		"the head":         {"", "\n", "silt", "Silt\n", "sil\n", "silt \n", " silt\n", "silt\r\n", "silt\n\n", "\nsilt\n", "silt\nsilt\n", "silt\x00\n", "\ufeffsilt\n", "d /a\n", "silt\nd /a\nsilt\n"},
		"a line's end":     {"silt\nd /a", "silt\nd /a\n\n", "silt\n\nd /a\n", "silt\nd /a\r\n", "silt\nd /a\rd /b\n", "silt\nd /a d /b\n", "silt\nd /a\x00", "silt\nf /a 1\n00", "silt\nf /a 1\r\n00\n", "silt\nf /a 0\nl /b /a", "silt\nf /a 0"},
		"the first letter": {"silt\nx /a\n", "silt\nD /a\n", "silt\n /a\n", "silt\n/a\n", "silt\ndd /a\n", "silt\nl /a\n", "silt\nf /a\n", "silt\nd /a 0\n", "silt\nd\n", "silt\nf\n", "silt\nl\n"},
		"a blank":          {"silt\nd  /a\n", "silt\nd /a \n", "silt\n d /a\n", "silt\nd\t/a\n", "silt\nd/a\n", "silt\nf /a  0\n", "silt\nf /a 0 \n", "silt\nf  /a 0\n", "silt\nf /a\t0\n", "silt\nf /a0\n", "silt\nf /a 1\n 00\n", "silt\nf /a 1\n00 \n", "silt\nf /a 2\n00 00\n", "silt\nf /a 0\nl /b  /a\n", "silt\nf /a 0\nl /b /a \n"},
		"a path":           {"silt\nd /\n", "silt\nd a\n", "silt\nd //a\n", "silt\nd /a/\n", "silt\nd /A\n", "silt\nd /.\n", "silt\nd /..\n", "silt\nd /\xff\n", "silt\nd /a\nd /a/.\n", "silt\nd /abcdefghijklm\n", "silt\nd /a/b\n", "silt\nf /a/b 0\n", "silt\nf / 0\n", "silt\nf a 0\n", "silt\nf /a 0\nf /a/b 0\n", "silt\nf /a 0\nd /a/b\n", "silt\nf /a 0\nl /a/b /a\n", "silt\nf /a 0\nl / /a\n", "silt\nf /a 0\nl b /a\n"},
		"the order":        {"silt\nd /b\nd /a\n", "silt\nd /a\nd /a\n", "silt\nf /a 0\nf /a 0\n", "silt\nf /a 0\nd /a\n", "silt\nd /a\nf /a 0\n", "silt\nd /a\nd /a/b\nd /a/a\n", "silt\nd /a\nd /b\nd /a/b\n", "silt\nd /b\nd /b/c\nd /a\n", "silt\nd /a-\nd /a\n", "silt\nd /a\nd /a-\nd /a/b\n", "silt\nd /a/b\nd /a\n", "silt\nf /b 1\n00\nf /a 1\n00\n"},
		"a size":           {"silt\nf /a \n", "silt\nf /a x\n", "silt\nf /a 00\n", "silt\nf /a 01\n00\n", "silt\nf /a +0\n", "silt\nf /a -0\n", "silt\nf /a -1\n", "silt\nf /a 0x0\n", "silt\nf /a 1.0\n00\n", "silt\nf /a 1e0\n00\n", "silt\nf /a 1_0\n" + strings.Repeat("00", 10) + "\n", "silt\nf /a 0\n00\n", "silt\nf /a 2\n00\n", "silt\nf /a 1\n0000\n", "silt\nf /a 1\n", "silt\nf /a 1\nd /b\n", "silt\nf /a 18446744073709551617\n00\n", "silt\nf /a ٠\n"},
		"bytes":            {"silt\nf /a 1\n\n", "silt\nf /a 1\n0\n", "silt\nf /a 1\n000\n", "silt\nf /a 1\n0A\n", "silt\nf /a 1\n0g\n", "silt\nf /a 1\n+0\n", "silt\nf /a 1\n0x\n", "silt\nf /a 1\n\n00\n", "silt\nf /a 2\n00\n00\n", "silt\nf /a 2\n\n0000\n", "silt\n00\n", "silt\nd /a\n00\n", "silt\nf /a 1\n00\n00\n"},
		"lines of bytes":   {"silt\nf /a 33\n" + strings.Repeat("00", 33) + "\n", "silt\nf /a 33\n" + strings.Repeat("00", 31) + "\n0000\n", "silt\nf /a 33\n00\n" + strings.Repeat("00", 32) + "\n", "silt\nf /a 32\n" + strings.Repeat("00", 31) + "\n00\n", "silt\nf /a 32\n" + strings.Repeat("00", 32) + "\n\n", "silt\nf /a 64\n" + strings.Repeat("00", 64) + "\n"},
		"a link":           {"silt\nl /a /b\nf /b 0\n", "silt\nf /a 0\nl /b /a\nl /c /b\n", "silt\nd /a\nl /b /a\n", "silt\nl /a /a\n", "silt\nf /a 0\nl /a /a\n", "silt\nf /a 0\nl /b /b\n", "silt\nf /a 0\nl /b /x\n", "silt\nf /a 0\nl /b a\n", "silt\nf /a 0\nl /b /\n", "silt\nf /a 0\nl /b\n", "silt\nf /a 0\nl /b 0\n", "silt\nf /b 0\nl /a /b\n", "silt\nf /a 0\nl /b /a /a\n", "silt\nf /a 0\nl /b /a 0\n", "silt\nf /a 0\nl /b /a\n00\n", "silt\nf /a 0\nL /b /a\n"},
	} {
		for _, text := range texts {
			noDump(t, what, text)
			if isDump(text) {
				t.Errorf("%s: the model tells that it is one: %q", what, text)
			}
		}
	}
}

// agreesWithModel: Restore takes a text just if the model does. It tells whether.
func agreesWithModel(t *testing.T, what string, text string) bool {
	t.Helper()
	v, e := silt.Restore(text)
	is := isDump(text)
	switch {
	case is && (v == nil || e != api.OK || v.Dump() != text):
		t.Errorf("%s: Restore: error %d, of the Dump\n%q", what, e, text)
	case !is:
		noDump(t, what, text)
	}
	return is
}

// changedLines: each line of a text left out, doubled, and laid behind each of the others.
func changedLines(text string) []string {
	lines := strings.SplitAfter(strings.TrimSuffix(text, "\n"), "\n")
	lines[len(lines)-1] += "\n"
	var all []string
	for i, line := range lines {
		ahead, behind := strings.Join(lines[:i], ""), strings.Join(lines[i+1:], "")
		all = append(all, ahead+behind, ahead+line+line+behind)
		for k := range lines {
			if k > i {
				all = append(all, ahead+strings.Join(lines[i+1:k+1], "")+line+strings.Join(lines[k+1:], ""))
			} else if k < i {
				all = append(all, strings.Join(lines[:k], "")+line+strings.Join(lines[k:i], "")+behind)
			}
		}
	}
	return all
}

// changedBytes: each byte of a text left out, doubled, and others in its place.
func changedBytes(text string) []string {
	var all []string
	for i := range len(text) {
		all = append(all, text[:i]+text[i+1:], text[:i]+text[i:i+1]+text[i:], text[:i])
		for _, b := range []byte("\n\r\x00 /.-_0129abfdlsxzAF\xff") {
			if b != text[i] {
				all = append(all, text[:i]+string([]byte{b})+text[i+1:])
			}
		}
	}
	return all
}

// TestP11Changed: whatever is changed of a Dump, what no Volume tells is none.
func TestP11Changed(t *testing.T) {
	v := volume(t, "/a/", "/a/b/", "/a/b/c", "/a-/", "/e", "/z/", "/z/y")
	must(t, v.Write("/e", 0, nil))
	must(t, v.Link("/e", "/a/e"))
	must(t, v.Link("/a/b/c", "/z/c"))
	must(t, v.Write("/a/f", 0, []byte("0123456789abcdefghijklmnopqrstuvwxyz")))
	must(t, v.Cut("/z/y", 32))
	dump := v.Dump()
	if !isDump(dump) {
		t.Fatalf("no Dump:\n%s", dump)
	}
	is, not := 0, 0
	for _, text := range append(changedLines(dump), changedBytes(dump)...) {
		if text == dump {
			continue
		}
		if agreesWithModel(t, "a change", text) {
			is++
		} else {
			not++
		}
	}
	if is < 100 || not < 1000 {
		t.Errorf("%d changes make another Dump, %d make none", is, not)
	}
}

// TestP11ChangedAtRandom: Dumps of Volumes at random, of which much is changed.
func TestP11ChangedAtRandom(t *testing.T) {
	for seed := range 20 {
		l := newLife(t, rand.New(rand.NewSource(int64(seed))), volume(t))
		for range 30 {
			l.turn(70)
		}
		dump := l.v.Dump()
		if !agreesWithModel(t, "a Dump", dump) {
			t.Errorf("seed %d: no Dump:\n%s", seed, dump)
		}
		for range 60 {
			text := dump
			for range 1 + l.Intn(3) {
				from, to := l.Intn(len(text)+1), l.Intn(len(text)+1)
				from, to = min(from, to), max(from, to)
				at := l.Intn(len(text) + 1)
				text = [...]string{text[:from] + text[to:], text[:at] + text[from:to] + text[at:], text[:from] + strings.ToUpper(text[from:to]) + text[to:]}[l.Intn(3)]
			}
			agreesWithModel(t, fmt.Sprint("seed ", seed), text)
		}
	}
}

// TestP11GoesOn: a Volume that was restored is used, and kept, and cleaned, and the power fails, as with any other.
func TestP11GoesOn(t *testing.T) {
	for seed := range 4 {
		r := rand.New(rand.NewSource(int64(seed)))
		first := newLife(t, r, volume(t))
		for range 20 {
			first.turn(300)
		}
		l := newLife(t, r, again(t, fmt.Sprint("seed ", seed), first.v))
		for range 8 {
			for range l.Intn(5) {
				l.turn(300)
			}
			l.keep()
		}
		l.failsEverywhere()
		again(t, fmt.Sprint("seed ", seed, ", at last"), l.v)
	}
}
