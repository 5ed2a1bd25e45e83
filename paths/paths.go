// Package paths tells what is a path, and of which names.
package paths

import (
	"strings"

	"silt/api"
)

const longest = api.MaxDepth * (1 + api.MaxName)

// Names tells the names of a path (the root has none), and whether it is one.
// The names share their bytes with the path.
func Names(path string) ([]string, bool) {
	if path == "/" {
		return nil, true
	}
	// The length is asked first, so that a huge text is not gone through.
	if len(path) > longest || !strings.HasPrefix(path, "/") {
		return nil, false
	}
	names := strings.Split(path[1:], "/")
	if len(names) > api.MaxDepth {
		return nil, false
	}
	for _, name := range names {
		if !isName(name) {
			return nil, false
		}
	}
	return names, true
}

func isName(text string) bool {
	if text == "" || text == "." || text == ".." || len(text) > api.MaxName {
		return false
	}
	for i := range len(text) {
		if !isNameByte(text[i]) {
			return false
		}
	}
	return true
}

func isNameByte(b byte) bool {
	switch {
	case b >= 'a' && b <= 'z', b >= '0' && b <= '9':
		return true
	}
	return b == '.' || b == '_' || b == '-'
}
