package tree

import "silt/api"

// Write puts data into a file, and makes the file where there is nothing.
func (t *Tree) Write(path string, at int, data []byte) api.Errno {
	// Asked so, for at and the length together may be more than an int holds.
	fits := at >= 0 && at <= api.MaxFile-len(data)
	place, e := t.locate(path, fits)
	if e != api.OK {
		return e
	}
	if !place.there {
		return t.makeFile(place, t.freeNumber(), overlaid(nil, at, data))
	}
	number, e := fileNumber(place)
	if e != api.OK {
		return e
	}
	f, _ := t.files.Get(number)
	return t.fill(number, overlaid(f.data, at, data))
}

// Cut gives a file just so many bytes.
func (t *Tree) Cut(path string, size int) api.Errno {
	number, e := t.locateFile(path, size >= 0 && size <= api.MaxFile)
	if e != api.OK {
		return e
	}
	f, _ := t.files.Get(number)
	return t.fill(number, resized(f.data, size))
}

// Read tells at most n bytes of a file, from at on.
func (t *Tree) Read(path string, at int, n int) ([]byte, api.Errno) {
	number, e := t.locateFile(path, at >= 0 && n >= 0)
	if e != api.OK {
		return nil, e
	}
	f, _ := t.files.Get(number)
	rest := f.data[min(at, len(f.data)):]
	return resized(rest, min(n, len(rest))), api.OK
}

// fill gives a file other bytes; the usage is asked of what then is held.
func (t *Tree) fill(number int, data []byte) (answer api.Errno) {
	before, _ := t.files.Get(number)
	defer func() {
		if answer != api.OK {
			t.files.Put(number, before)
		}
	}()
	t.files.Put(number, file{data: data, links: before.links})
	if t.Usage() > api.Capacity {
		return api.ErrFull
	}
	return api.OK
}

// makeFile makes a file with one link, of a number that no other file has.
func (t *Tree) makeFile(at spot, number int, data []byte) (answer api.Errno) {
	if !t.mayMake(at.dir) {
		return api.ErrMany
	}
	t.files.Put(number, file{links: 1})
	at.enter(entry{file: number})
	defer func() {
		if answer != api.OK {
			at.leave()
			t.unlink(number)
		}
	}()
	return t.fill(number, data)
}

// freeNumber tells the lowest number that no file has.
func (t *Tree) freeNumber() int {
	free := 0
	for number := range t.files.All() {
		if number != free {
			break
		}
		free++
	}
	return free
}

// overlaid is the old bytes with data from at on, in new memory if there is data.
func overlaid(old []byte, at int, data []byte) []byte {
	if len(data) == 0 {
		return old
	}
	fresh := resized(old, max(len(old), at+len(data)))
	copy(fresh[at:], data)
	return fresh
}

// resized is the first bytes of the old ones, and 0s behind, in new memory.
func resized(old []byte, size int) []byte {
	fresh := make([]byte, size)
	copy(fresh, old)
	return fresh
}
