package dumps

import (
	"fmt"
	"strings"
	"testing"

	"silt/api"
	"silt/tree"
)

// some: files of which the numbers are not in the order in which they are told, and one with three links.
func some(t *testing.T) *tree.Tree {
	t.Helper()
	held := tree.New()
	for i, e := range []api.Errno{
		held.Write("/z", 0, []byte("abc")), held.Mkdir("/d"), held.Mkdir("/d-"), held.Write("/d/y", 0, nil),
		held.Link("/z", "/d/z"), held.Write("/a", 0, make([]byte, 33)), held.Link("/z", "/d-/x"), held.Mkdir("/d/e"),
	} {
		if e != api.OK {
			t.Fatalf("call %d: error %d", i, e)
		}
	}
	return held
}

var someTold = "silt\nf /a 33\n" + strings.Repeat("00", 32) + "\n00\nd /d\nd /d/e\nf /d/y 0\nf /d/z 3\n616263\nd /d-\nl /d-/x /d/z\nl /z /d/z\n"

func TestOf(t *testing.T) {
	if got := Of(tree.New()); got != "silt\n" {
		t.Errorf("an empty root: %q", got)
	}
	if got := Of(some(t)); got != someTold {
		t.Errorf("told: %q, want %q", got, someTold)
	}
}

// TestOfDigits: each byte has two digits, of its own.
func TestOfDigits(t *testing.T) {
	held := tree.New()
	want := "silt\nf /f 256\n"
	for b := range 256 {
		held.Write("/f", b, []byte{byte(b)})
		want += fmt.Sprintf("%02x", b)
		if b%32 == 31 {
			want += "\n"
		}
	}
	if got := Of(held); got != want {
		t.Errorf("told: %q, want %q", got, want)
	}
}

func TestRead(t *testing.T) {
	for _, text := range []string{"silt\n", someTold} {
		held, ok := Read(text)
		if !ok {
			t.Fatalf("%q is not read", text)
		}
		if got := Of(held); got != text {
			t.Errorf("%q is told again as %q", text, got)
		}
	}
	held, _ := Read(someTold)
	if e := held.Write("/z", 1, []byte("-")); e != api.OK {
		t.Fatalf("error %d", e)
	}
	for _, path := range []string{"/d/z", "/d-/x", "/z"} {
		if data, _ := held.Read(path, 0, 9); string(data) != "a-c" {
			t.Errorf("the link %s has %q", path, data)
		}
		if x, _ := held.Stat(path); x.Links != 3 {
			t.Errorf("%s: %+v", path, x)
		}
	}
	if held.Nodes() != 7 || held.Usage() != 2 {
		t.Errorf("%d nodes, of the usage %d", held.Nodes(), held.Usage())
	}
}

// TestReadNot: what means nothing, and what means something that would be told otherwise.
func TestReadNot(t *testing.T) {
	for _, text := range []string{
		"", "silt", "silt \n", " silt\n", "silt\nsilt\n", "\nsilt\n", "silt\n\n", "silt\nd /a", "silt\nd\n", "silt\nd \n", "silt\nf\n", "silt\nl\n", "silt\n /a\n", "silt\nD /a\n", "silt\nd /a /b\n",
		"silt\nf /a 0", "silt\nf /a 1\n00", "silt\nf /a \n", "silt\nf /a -5\n", "silt\nf /a 0 0\n", "silt\nf /a 0x1\n00\n", "silt\nf /a 1_0\n", "silt\nf /a 99999999999999999999\n00\n", "silt\nf /a 9223372036854775807\n00\n", "silt\nf /a 1\n\n00\n", "silt\nf /a 2\n00\n\n00\n",
		"silt\nf /a 0\nl /b\n", "silt\nf /a 0\nl /b \n", "silt\nf /a 0\nl /b /\n", "silt\nf /a 0\nl /b /a \n", "silt\nf /a 0\nl /a /a\n", "silt\nl /a /a\n", "silt\nf /a 0\nl /b /b\n",
	} {
		if held, ok := Read(text); ok || held != nil {
			t.Errorf("%q is read", text)
		}
	}
}

// TestReadEnds: texts that are far longer than any dump.
func TestReadEnds(t *testing.T) {
	for _, c := range []struct{ first, again string }{
		{"", "silt\n"}, {"silt\n", "\n"}, {"silt\n", "d /a\n"}, {"silt\n", "f /a 0\n"}, {"silt\n", " "}, {"silt\nd ", " "}, {"silt\nd ", "/a"},
		{"silt\nf /a 1280\n", "00"}, {"silt\nf /a 9223372036854775807\n", "\n"}, {"silt\nf /a 9223372036854775807\n", "00\n"}, {"silt\nf /a ", "1"}, {"silt\nf /a 0\nl /b ", "/a"},
	} {
		if _, ok := Read(c.first + strings.Repeat(c.again, 1<<20)); ok {
			t.Errorf("%q and %q again and again is read", c.first, c.again)
		}
	}
}
