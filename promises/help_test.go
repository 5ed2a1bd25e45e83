// Package promises tests what the document promises, promise by promise, through the calls alone.
package promises

import (
	"bytes"
	"fmt"
	"strings"
	"testing"

	"silt/api"
	"silt/silt"
)

// volume: Format, and some directories (with a / behind) and files (of which the bytes are their paths).
func volume(t *testing.T, paths ...string) *silt.Volume {
	t.Helper()
	v := silt.Format()
	if v == nil {
		t.Fatal("Format made no Volume")
	}
	for _, p := range paths {
		if dir, is := strings.CutSuffix(p, "/"); is {
			must(t, v.Mkdir(dir))
		} else {
			must(t, v.Write(p, 0, []byte(p)))
		}
	}
	return v
}

func must(t *testing.T, e api.Errno) {
	t.Helper()
	if e != api.OK {
		t.Fatalf("error %d, want none", e)
	}
}

func want(t *testing.T, what string, got api.Errno, want api.Errno) {
	t.Helper()
	if got != want {
		t.Errorf("%s: error %d, want %d", what, got, want)
	}
}

// state tells all that is held, and holds Stat against List.
func state(t *testing.T, v *silt.Volume) string {
	t.Helper()
	var told strings.Builder
	fmt.Fprintf(&told, "usage %d\n", v.Usage())
	var tell func(path string, x api.Entry)
	tell = func(path string, x api.Entry) {
		fmt.Fprintf(&told, "%s %v %d %d", path, x.Dir, x.Size, x.Links)
		if !x.Dir {
			data, e := v.Read(path, 0, api.MaxFile)
			if e != api.OK || len(data) != x.Size {
				t.Errorf("Read of all of %s: %d bytes, error %d, and Stat's size is %d", path, len(data), e, x.Size)
			}
			fmt.Fprintf(&told, " %q\n", data)
			return
		}
		told.WriteString("\n")
		list, e := v.List(path)
		if e != api.OK || len(list) != x.Size {
			t.Errorf("List of %s: %d entries, error %d, and Stat's size is %d", path, len(list), e, x.Size)
		}
		for _, y := range list {
			below := strings.TrimSuffix(path, "/") + "/" + y.Name
			if z, e := v.Stat(below); e != api.OK || z != y {
				t.Errorf("Stat of %s: %+v, error %d, and List tells %+v", below, z, e, y)
			}
			tell(below, y)
		}
	}
	root, e := v.Stat("/")
	must(t, e)
	tell("/", root)
	return told.String()
}

// unchanged does something that answers an error, and tells if anything is changed behind it.
func unchanged(t *testing.T, v *silt.Volume, what string, e api.Errno, do func() api.Errno) {
	t.Helper()
	before := state(t, v)
	want(t, what, do(), e)
	if after := state(t, v); after != before {
		t.Errorf("%s: is now\n%s\nand was\n%s", what, after, before)
	}
}

// content tells the whole file.
func content(t *testing.T, v *silt.Volume, path string) string {
	t.Helper()
	data, e := v.Read(path, 0, api.MaxFile)
	if e != api.OK {
		t.Errorf("Read of %s: error %d", path, e)
	}
	return string(data)
}

func names(t *testing.T, v *silt.Volume, path string) string {
	t.Helper()
	list, e := v.List(path)
	must(t, e)
	var all []string
	for _, x := range list {
		all = append(all, x.Name)
	}
	return strings.Join(all, " ")
}

// stat tells an entry in short: the name, / of a directory or : of a file, the size and the links.
func stat(t *testing.T, v *silt.Volume, path string) string {
	t.Helper()
	x, e := v.Stat(path)
	if e != api.OK {
		return fmt.Sprint("error ", int(e))
	}
	mark := ":"
	if x.Dir {
		mark = "/"
	}
	return fmt.Sprintf("%s%s%d:%d", x.Name, mark, x.Size, x.Links)
}

// fill makes n empty files in a directory, named by a letter and their number.
func fill(t *testing.T, v *silt.Volume, dir string, letter string, n int) {
	t.Helper()
	for i := range n {
		must(t, v.Write(fmt.Sprintf("%s/%s%d", dir, letter, i), 0, nil))
	}
}

// fullDisk: eight files /b0 to /b7 of MaxFile bytes each, which is Capacity.
func fullDisk(t *testing.T) *silt.Volume {
	t.Helper()
	v := volume(t)
	for i := range 8 {
		must(t, v.Write(fmt.Sprintf("/b%d", i), 0, bytes.Repeat([]byte{byte('0' + i)}, api.MaxFile)))
	}
	if n := v.Usage(); n != api.Capacity {
		t.Fatalf("usage %d, want %d", n, api.Capacity)
	}
	return v
}
