// Package silt: files on a disk that is only ever written onward, and cleaned behind: see DOC.md.
package silt

import (
	"silt/api"
	"silt/disk"
	"silt/dumps"
	"silt/store"
	"silt/tree"
)

// Volume is directories and files, and the disk on which they are kept.
type Volume struct {
	self  *Volume // tells a Volume that was made here from a copy of one, and from an empty one
	held  *tree.Tree
	disk  *disk.Disk
	store *store.Store
}

func newVolume(held *tree.Tree, d *disk.Disk, s *store.Store) *Volume {
	v := &Volume{held: held, disk: d, store: s}
	v.self = v
	return v
}

// formatted makes a Volume that holds something, and keeps it on a new disk.
func formatted(held *tree.Tree) *Volume {
	d := disk.New()
	return newVolume(held, d, store.Format(d, held))
}

func (v *Volume) made() bool { return v != nil && v.self == v }

// Format makes a Volume with an empty root (P3).
func Format() *Volume { return formatted(tree.New()) }

// Open makes a Volume of a disk (P9).
func Open(image []byte) (*Volume, api.Errno) {
	d, ok := disk.Of(image)
	if !ok {
		return nil, api.ErrImage
	}
	s, held, ok := store.Open(d)
	if !ok {
		return nil, api.ErrImage
	}
	return newVolume(held, d, s), api.OK
}

// Restore makes a Volume of a dump (P11).
func Restore(dump string) (*Volume, api.Errno) {
	held, ok := dumps.Read(dump)
	if !ok {
		return nil, api.ErrDump
	}
	return formatted(held), api.OK
}

// Check looks through a disk (P10).
func Check(image []byte) (api.Report, api.Errno) {
	v, e := Open(image)
	if e != api.OK {
		return api.Report{}, e
	}
	return api.Report{Nodes: v.held.Nodes(), Usage: v.held.Usage(), Live: v.store.Live(), Free: v.store.Free()}, api.OK
}

// Mkdir makes a directory (P4).
func (v *Volume) Mkdir(path string) api.Errno {
	if !v.made() {
		return api.ErrClosed
	}
	return v.held.Mkdir(path)
}

// Write writes into a file, and makes one (P5).
func (v *Volume) Write(path string, at int, data []byte) api.Errno {
	if !v.made() {
		return api.ErrClosed
	}
	return v.held.Write(path, at, data)
}

// Cut makes a file shorter or longer (P5).
func (v *Volume) Cut(path string, size int) api.Errno {
	if !v.made() {
		return api.ErrClosed
	}
	return v.held.Cut(path, size)
}

// Link makes one more link of a file (P4).
func (v *Volume) Link(from string, to string) api.Errno {
	if !v.made() {
		return api.ErrClosed
	}
	return v.held.Link(from, to)
}

// Move moves an entry (P4).
func (v *Volume) Move(from string, to string) api.Errno {
	if !v.made() {
		return api.ErrClosed
	}
	return v.held.Move(from, to)
}

// Remove removes an entry (P4).
func (v *Volume) Remove(path string) api.Errno {
	if !v.made() {
		return api.ErrClosed
	}
	return v.held.Remove(path)
}

// Read reads from a file (P6).
func (v *Volume) Read(path string, at int, n int) ([]byte, api.Errno) {
	if !v.made() {
		return nil, api.ErrClosed
	}
	return v.held.Read(path, at, n)
}

// List tells the entries of a directory (P6).
func (v *Volume) List(path string) ([]api.Entry, api.Errno) {
	if !v.made() {
		return nil, api.ErrClosed
	}
	return v.held.List(path)
}

// Stat tells what stands somewhere (P6).
func (v *Volume) Stat(path string) (api.Entry, api.Errno) {
	if !v.made() {
		return api.Entry{}, api.ErrClosed
	}
	return v.held.Stat(path)
}

// Usage tells how many blocks files fill (P6).
func (v *Volume) Usage() int {
	if !v.made() {
		return 0
	}
	return v.held.Usage()
}

// Sync keeps what is held (P7).
func (v *Volume) Sync() api.Errno {
	if !v.made() {
		return api.ErrClosed
	}
	v.store.Keep(v.held)
	return api.OK
}

// Clean keeps what is held, and cleans the disk (P7).
func (v *Volume) Clean() int {
	if !v.made() {
		return 0
	}
	ahead := v.store.Free()
	v.store.Clean(v.held)
	return api.Block * max(0, v.store.Free()-ahead)
}

// Image tells the disk (P8).
func (v *Volume) Image() []byte {
	if !v.made() {
		return nil
	}
	return v.disk.Image()
}

// Epochs tells how many flushes there were (P8).
func (v *Volume) Epochs() int {
	if !v.made() {
		return 0
	}
	return v.disk.Epochs()
}

// Writes tells how many blocks were written in an epoch (P8).
func (v *Volume) Writes(epoch int) int {
	if !v.made() {
		return 0
	}
	return v.disk.Writes(epoch)
}

// Broken tells the disk, if the power fails (P8).
func (v *Volume) Broken(epoch int, lost []bool) []byte {
	if !v.made() {
		return nil
	}
	return v.disk.Broken(epoch, lost)
}

// Dump tells what is held (P11).
func (v *Volume) Dump() string {
	if !v.made() {
		return ""
	}
	return dumps.Of(v.held)
}
