package tree

import "silt/api"

// count tells how many directories there are, with d itself, and how many entries they have.
func (d *directory) count() (directories int, entries int) {
	directories, entries = 1, d.entries.Len()
	for _, what := range d.entries.All() {
		if what.dir != nil {
			below, within := what.dir.count()
			directories += below
			entries += within
		}
	}
	return directories, entries
}

// height tells how many names the longest path within d has.
func (d *directory) height() int {
	height := 0
	for _, what := range d.entries.All() {
		names := 1
		if what.dir != nil {
			names += what.dir.height()
		}
		height = max(height, names)
	}
	return height
}

func (d *directory) isFull() bool { return d.entries.Len() >= api.MaxEntries }

// mayLink tells whether d may have one more entry.
func (t *Tree) mayLink(d *directory) bool {
	_, entries := t.root.count()
	return !d.isFull() && entries < api.MaxLinks
}

// mayMake tells whether d may have one more entry, of a node that is new.
func (t *Tree) mayMake(d *directory) bool {
	return t.mayLink(d) && t.Nodes() < api.MaxNodes
}

// Nodes tells how many directories and files there are, with the root.
func (t *Tree) Nodes() int {
	directories, _ := t.root.count()
	return directories + t.files.Len()
}

// Usage tells how many blocks the bytes of all files fill.
func (t *Tree) Usage() int {
	usage := 0
	for _, f := range t.files.All() {
		usage += (len(f.data) + api.Block - 1) / api.Block
	}
	return usage
}
