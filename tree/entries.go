package tree

import (
	"strings"

	"silt/api"
)

// Mkdir makes a directory.
func (t *Tree) Mkdir(path string) api.Errno {
	at, e := t.locateGap(path)
	if e != api.OK {
		return e
	}
	if !t.mayMake(at.dir) {
		return api.ErrMany
	}
	at.enter(entry{dir: &directory{}})
	return api.OK
}

// Remove takes an entry away, and with its last one a file.
func (t *Tree) Remove(path string) api.Errno {
	at, e := t.locateThere(path)
	if e != api.OK {
		return e
	}
	if at.isRoot() {
		return api.ErrBusy
	}
	if dir := at.what.dir; dir != nil {
		if dir.entries.Len() > 0 {
			return api.ErrBusy
		}
		at.leave()
		return api.OK
	}
	at.leave()
	t.unlink(at.what.file)
	return api.OK
}

// Link makes one more link of a file.
func (t *Tree) Link(from string, to string) api.Errno {
	source, toNames, e := t.locateFirst(from, to)
	if e != api.OK {
		return e
	}
	number, e := fileNumber(source)
	if e != api.OK {
		return e
	}
	target, e := t.followToGap(toNames)
	if e != api.OK {
		return e
	}
	return t.makeLink(target, number)
}

// Move makes an entry stand elsewhere.
func (t *Tree) Move(from string, to string) api.Errno {
	source, toNames, e := t.locateFirst(from, to)
	if e != api.OK {
		return e
	}
	if !source.there {
		return api.ErrNone
	}
	if source.isRoot() || source.what.dir != nil && strings.HasPrefix(to, from+"/") {
		return api.ErrBusy
	}
	target, e := t.followToGap(toNames)
	if e != api.OK {
		return e
	}
	if !mayMove(source, target, len(toNames)) {
		return api.ErrMany
	}
	source.leave()
	target.enter(source.what)
	return api.OK
}

// mayMove tells whether there is room for an entry at a target whose path has so many names.
func mayMove(source spot, target spot, names int) bool {
	if target.dir != source.dir && target.dir.isFull() {
		return false
	}
	dir := source.what.dir
	return dir == nil || names+dir.height() <= api.MaxDepth
}

// makeLink makes an entry of a file that is there.
func (t *Tree) makeLink(at spot, number int) api.Errno {
	if !t.mayLink(at.dir) {
		return api.ErrMany
	}
	f, _ := t.files.Get(number)
	f.links++
	t.files.Put(number, f)
	at.enter(entry{file: number})
	return api.OK
}

func (t *Tree) unlink(number int) {
	f, _ := t.files.Get(number)
	f.links--
	if f.links == 0 {
		t.files.Drop(number)
		return
	}
	t.files.Put(number, f)
}

// tell makes new memory of a name: the one that is kept stays the Tree's own.
func (t *Tree) tell(name string, what entry) api.Entry {
	name = strings.Clone(name)
	if what.dir != nil {
		return api.Entry{Name: name, Dir: true, Size: what.dir.entries.Len(), Links: 1}
	}
	f, _ := t.files.Get(what.file)
	return api.Entry{Name: name, Size: len(f.data), Links: f.links}
}

// Stat tells what stands at a path.
func (t *Tree) Stat(path string) (api.Entry, api.Errno) {
	at, e := t.locateThere(path)
	if e != api.OK {
		return api.Entry{}, e
	}
	return t.tell(at.name, at.what), api.OK
}

// List tells the entries of a directory by their names.
func (t *Tree) List(path string) ([]api.Entry, api.Errno) {
	at, e := t.locateThere(path)
	if e != api.OK {
		return nil, e
	}
	dir := at.what.dir
	if dir == nil {
		return nil, api.ErrFile
	}
	list := make([]api.Entry, 0, dir.entries.Len())
	for name, what := range dir.entries.All() {
		list = append(list, t.tell(name, what))
	}
	return list, api.OK
}
