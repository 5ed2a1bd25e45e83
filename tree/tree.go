// Package tree holds directories and files: what a Volume holds, apart from any disk.
package tree

import (
	"strings"

	"silt/api"
	"silt/ordered"
	"silt/paths"
)

// entry is what a name stands for: a directory, or else the file of a number.
type entry struct {
	dir  *directory
	file int
}

type directory struct {
	entries ordered.Map[string, entry]
}

// file is a value: its bytes are never written into, but others put in their place,
// so that the old ones can be put back.
type file struct {
	data  []byte
	links int
}

// Tree is the root with all that stands in it. The calls answer as P3 to P6 say.
type Tree struct {
	root  *directory
	files ordered.Map[int, file]
}

// New makes a Tree with an empty root.
func New() *Tree { return &Tree{root: &directory{}} }

// spot is where a path leads: a name of a directory, and what stands there. The root's has neither.
type spot struct {
	dir   *directory
	name  string
	there bool
	what  entry
}

func (at spot) isRoot() bool { return at.dir == nil }

// locate goes through a path; fits is false, if a number that came with the path may not be.
func (t *Tree) locate(path string, fits bool) (spot, api.Errno) {
	names, ok := paths.Names(path)
	if !ok {
		return spot{}, api.ErrPath
	}
	if !fits {
		return spot{}, api.ErrRange
	}
	return t.follow(names)
}

// locateThere goes through the path of what must be there.
func (t *Tree) locateThere(path string) (spot, api.Errno) {
	at, e := t.locate(path, true)
	if e == api.OK && !at.there {
		return spot{}, api.ErrNone
	}
	return at, e
}

// locateGap goes through the path of what shall be made.
func (t *Tree) locateGap(path string) (spot, api.Errno) {
	names, ok := paths.Names(path)
	if !ok {
		return spot{}, api.ErrPath
	}
	return t.followToGap(names)
}

// locateFirst asks whether both are paths, and goes through the first; the names of the second are still to be gone through.
func (t *Tree) locateFirst(first string, second string) (spot, []string, api.Errno) {
	secondNames, ok := paths.Names(second)
	if !ok {
		return spot{}, nil, api.ErrPath
	}
	at, e := t.locate(first, true)
	return at, secondNames, e
}

func (t *Tree) follow(names []string) (spot, api.Errno) {
	at := spot{there: true, what: entry{dir: t.root}}
	for _, name := range names {
		if !at.there {
			return spot{}, api.ErrNone
		}
		dir := at.what.dir
		if dir == nil {
			return spot{}, api.ErrFile
		}
		what, there := dir.entries.Get(name)
		at = spot{dir: dir, name: name, there: there, what: what}
	}
	return at, api.OK
}

// followToGap goes through the names of what shall be made.
func (t *Tree) followToGap(names []string) (spot, api.Errno) {
	at, e := t.follow(names)
	if e != api.OK {
		return spot{}, e
	}
	if at.there {
		return spot{}, api.ErrThere
	}
	return at, api.OK
}

// fileNumber tells which file stands at a spot.
func fileNumber(at spot) (int, api.Errno) {
	if !at.there {
		return 0, api.ErrNone
	}
	if at.what.dir != nil {
		return 0, api.ErrDir
	}
	return at.what.file, api.OK
}

// locateFile goes through the path of a file that must be there.
func (t *Tree) locateFile(path string, fits bool) (int, api.Errno) {
	at, e := t.locate(path, fits)
	if e != api.OK {
		return 0, e
	}
	return fileNumber(at)
}

// enter gives a spot its entry. The name is copied, for it is a part of a text that was handed in.
func (at spot) enter(what entry) {
	at.dir.entries.Put(strings.Clone(at.name), what)
}

func (at spot) leave() {
	at.dir.entries.Drop(at.name)
}
