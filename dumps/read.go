package dumps

import (
	"strconv"
	"strings"

	"silt/tree"
)

// reading reads a text line by line. It asks only what it must so as to know what the text means:
// whether this would be told by just that text is asked behind it.
type reading struct {
	rest    string
	numbers map[string]int // of files, by the paths by which they were told
}

// Read makes what a text tells, if that is what Of would tell of it.
func Read(text string) (*tree.Tree, bool) {
	rest, ok := strings.CutPrefix(text, head+lineEnd)
	if !ok {
		return nil, false
	}
	r := reading{rest: rest, numbers: map[string]int{}}
	held := tree.New()
	for r.rest != "" {
		item, ok := r.item()
		if !ok || !held.Add(item) {
			return nil, false
		}
	}
	if Of(held) != text {
		return nil, false
	}
	return held, true
}

// line reads up to the next line's end, and tells whether there is one.
func (r *reading) line() (string, bool) {
	read, rest, ok := strings.Cut(r.rest, lineEnd)
	r.rest = rest
	return read, ok
}

// item reads an entry.
func (r *reading) item() (tree.Item, bool) {
	read, ok := r.line()
	if !ok {
		return tree.Item{}, false
	}
	word, read, _ := strings.Cut(read, blank)
	path, last, _ := strings.Cut(read, blank)
	switch word {
	case directory:
		return tree.Item{Path: path, Kind: tree.Directory}, true
	case file:
		return r.file(path, last)
	case link:
		number, ok := r.numbers[last]
		return tree.Item{Path: path, Kind: tree.Link, Number: number}, ok
	}
	return tree.Item{}, false
}

// file reads the bytes of a file, and gives it the next number.
func (r *reading) file(path string, told string) (tree.Item, bool) {
	size, err := strconv.Atoi(told)
	if err != nil {
		return tree.Item{}, false
	}
	item := tree.Item{Path: path, Kind: tree.File, Number: len(r.numbers)}
	for len(item.Data) < size {
		read, ok := r.line()
		if !ok {
			return tree.Item{}, false
		}
		if item.Data, ok = appendBytes(item.Data, read); !ok {
			return tree.Item{}, false
		}
	}
	r.numbers[path] = item.Number
	return item, true
}

// appendBytes reads bytes of two digits each, and lays them behind others.
func appendBytes(data []byte, read string) ([]byte, bool) {
	if len(read)%2 != 0 {
		return nil, false
	}
	for i := 0; i < len(read); i += 2 {
		high := strings.IndexByte(digits, read[i])
		low := strings.IndexByte(digits, read[i+1])
		if high < 0 || low < 0 {
			return nil, false
		}
		data = append(data, byte(high<<4|low))
	}
	return data, true
}
