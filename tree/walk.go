package tree

import (
	"iter"

	"silt/api"
)

// Kind is what an entry is to a walk.
type Kind byte

// Nothing is the first of them, so that a nought is none of the others.
const (
	Nothing Kind = iota
	Directory
	File
	Link // one more of a file that the walk came by already
)

// Item is an entry as a walk comes by it.
type Item struct {
	Path   string
	Kind   Kind
	Number int    // of a File and a Link
	Data   []byte // of a File; the Tree's own, not to be written into
}

// All gives each entry to a range: those of a directory by their names, and right behind each directory its own ones.
// The Tree is not to be changed until the range has ended.
func (t *Tree) All() iter.Seq[Item] {
	return func(yield func(Item) bool) {
		var seen [api.MaxNodes]bool
		t.walk(t.root, "", &seen, yield)
	}
}

// walk tells whether the range shall go on.
func (t *Tree) walk(d *directory, path string, seen *[api.MaxNodes]bool, yield func(Item) bool) bool {
	for name, what := range d.entries.All() {
		item := t.item(path+"/"+name, what, seen)
		if !yield(item) {
			return false
		}
		if what.dir != nil && !t.walk(what.dir, item.Path, seen, yield) {
			return false
		}
	}
	return true
}

func (t *Tree) item(path string, what entry, seen *[api.MaxNodes]bool) Item {
	if what.dir != nil {
		return Item{Path: path, Kind: Directory}
	}
	if seen[what.file] {
		return Item{Path: path, Kind: Link, Number: what.file}
	}
	seen[what.file] = true
	f, _ := t.files.Get(what.file)
	return Item{Path: path, Kind: File, Number: what.file, Data: f.data}
}

// Add makes the entry that an Item tells, and tells whether it may be. Of a File the data is kept.
func (t *Tree) Add(item Item) bool {
	switch item.Kind {
	case Directory:
		return t.Mkdir(item.Path) == api.OK
	case File:
		return t.addFile(item)
	case Link:
		return t.addLink(item)
	}
	return false
}

func (t *Tree) addFile(item Item) bool {
	at, e := t.locateGap(item.Path)
	if e != api.OK || item.Number < 0 || item.Number >= api.MaxNodes || len(item.Data) > api.MaxFile {
		return false
	}
	if _, there := t.files.Get(item.Number); there {
		return false
	}
	return t.makeFile(at, item.Number, item.Data) == api.OK
}

func (t *Tree) addLink(item Item) bool {
	at, e := t.locateGap(item.Path)
	if _, there := t.files.Get(item.Number); e != api.OK || !there {
		return false
	}
	return t.makeLink(at, item.Number) == api.OK
}
