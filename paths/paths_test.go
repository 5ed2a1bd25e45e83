package paths

import (
	"slices"
	"strings"
	"testing"
)

func TestNames(t *testing.T) {
	for _, c := range []struct {
		path string
		want []string
	}{
		{"/", nil},
		{"/a", []string{"a"}},
		{"/a/b.c/_-9", []string{"a", "b.c", "_-9"}},
		{"/...", []string{"..."}},
		{"/..a/.a", []string{"..a", ".a"}},
		{strings.Repeat("/abcdefghijkl", 6), slices.Repeat([]string{"abcdefghijkl"}, 6)},
	} {
		if got, ok := Names(c.path); !ok || !slices.Equal(got, c.want) {
			t.Errorf("%q: %q, %v", c.path, got, ok)
		}
	}
}

func TestNoPath(t *testing.T) {
	for _, path := range []string{
		"", "a", "a/b", "//", "/a/", "//a", "/a//b", "/.", "/..", "/a/.", "/../a",
		"/A", "/a b", "/é", "/a\x00", "/\xff", "/abcdefghijklm", "/a/a/a/a/a/a/a",
		strings.Repeat("/abcdefghijkl", 7), strings.Repeat("/", 1<<20),
	} {
		if got, ok := Names(path); ok || got != nil {
			t.Errorf("%.40q: %q, %v", path, got, ok)
		}
	}
}
