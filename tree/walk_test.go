package tree

import (
	"fmt"
	"slices"
	"strings"
	"testing"

	"silt/api"
)

func told(tr *Tree) string {
	var all []string
	for item := range tr.All() {
		all = append(all, fmt.Sprintf("%d %s %d %.9s", item.Kind, item.Path, item.Number, item.Data))
	}
	return strings.Join(all, ", ")
}

// some: files 0 to 3 of which 1 is gone, and 2 has two links.
func some() *Tree {
	tr := New()
	tr.Mkdir("/d")
	tr.Write("/d/b", 0, []byte("zero"))
	tr.Write("/gone", 0, []byte("one"))
	tr.Write("/z", 0, []byte("two"))
	tr.Write("/e", 0, []byte("three"))
	tr.Link("/z", "/d/a")
	tr.Mkdir("/d-")
	tr.Mkdir("/d/c")
	tr.Mkdir("/d/c/x")
	tr.Remove("/gone")
	return tr
}

const someTold = "1 /d 0 , 2 /d/a 2 two, 2 /d/b 0 zero, 1 /d/c 0 , 1 /d/c/x 0 , 1 /d- 0 , 2 /e 3 three, 3 /z 2 "

func TestAll(t *testing.T) {
	if got := told(New()); got != "" {
		t.Errorf("an empty root: %s", got)
	}
	tr := some()
	if got := told(tr); got != someTold {
		t.Errorf("told: %s", got)
	}
	whole := slices.Collect(tr.All())
	for n := range whole {
		seen := 0
		for item := range tr.All() {
			if item.Path != whole[seen].Path {
				t.Errorf("%s, want %s", item.Path, whole[seen].Path)
			}
			if seen++; seen > n {
				break
			}
		}
	}
}

func TestAddAll(t *testing.T) {
	tr := New()
	for item := range some().All() {
		if !tr.Add(item) {
			t.Fatalf("%+v is not added", item)
		}
	}
	if got := told(tr); got != someTold {
		t.Errorf("told: %s", got)
	}
	tr.Write("/new", 0, []byte("new"))
	tr.Remove("/z")
	if got := told(tr); !strings.Contains(got, "2 /new 1 new") || !strings.Contains(got, "2 /d/a 2 two") {
		t.Errorf("told: %s", got)
	}
}

func TestAddNot(t *testing.T) {
	tr := some()
	full := make([]byte, api.MaxFile)
	for i := range 7 {
		tr.Write(fmt.Sprint("/d/c/", i), 0, full)
	}
	tr.Mkdir("/full")
	for i := range api.MaxEntries {
		tr.Link("/z", fmt.Sprint("/full/", i))
	}
	before := told(tr)
	for i, item := range []Item{
		{}, {Path: "/n"}, {Path: "/n", Kind: Link + 1, Number: 2}, {Path: "/n", Kind: 255},
		{Kind: Directory}, {Path: "/", Kind: Directory}, {Path: "/d", Kind: Directory}, {Path: "/e/n", Kind: Directory}, {Path: "/n/n", Kind: Directory}, {Path: "n", Kind: Directory}, {Path: "/full/n", Kind: Directory},
		{Path: "/n", Kind: File}, {Path: "/n", Kind: File, Number: 3}, {Path: "/n", Kind: File, Number: -1}, {Path: "/n", Kind: File, Number: api.MaxNodes},
		{Path: "/n", Kind: File, Number: 20, Data: make([]byte, api.MaxFile+1)}, {Path: "/n", Kind: File, Number: 20, Data: full},
		{Kind: File, Number: 20}, {Path: "/e", Kind: File, Number: 20}, {Path: "/N", Kind: File, Number: 20}, {Path: "/n/n", Kind: File, Number: 20}, {Path: "/full/n", Kind: File, Number: 20},
		{Path: "/n", Kind: Link, Number: 30}, {Path: "/n", Kind: Link, Number: -1}, {Path: "/n", Kind: Link, Number: api.MaxNodes}, {Path: "/d", Kind: Link}, {Path: "/d/c/0/n", Kind: Link}, {Path: "/full/n", Kind: Link},
	} {
		if tr.Add(item) {
			t.Errorf("case %d is added: %s", i, item.Path)
		}
		if after := told(tr); after != before {
			t.Fatalf("case %d: told: %s", i, after)
		}
	}
	if !tr.Add(Item{Path: "/n", Kind: File, Number: 20, Data: full[:api.MaxFile-3*api.Block]}) {
		t.Error("what fills the Capacity is not added")
	}
	if tr.Usage() != api.Capacity {
		t.Errorf("usage %d", tr.Usage())
	}
}

// TestAddNodes: not more nodes than there may be.
func TestAddNodes(t *testing.T) {
	tr := New()
	dir := ""
	for number := 1; number < api.MaxNodes; number++ {
		item := Item{Path: fmt.Sprintf("%s/f%d", dir, number), Kind: File, Number: number}
		if number%10 == 1 {
			dir = fmt.Sprintf("/d%d", number)
			item = Item{Path: dir, Kind: Directory}
		}
		if !tr.Add(item) {
			t.Fatalf("%+v is not added", item)
		}
	}
	if tr.Add(Item{Path: "/d1/x", Kind: File}) || tr.Add(Item{Path: "/d1/x", Kind: Directory}) {
		t.Error("one node too many is added")
	}
}
