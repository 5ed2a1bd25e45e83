// Package dumps tells what is held as a text, and reads such a text again.
package dumps

import (
	"slices"
	"strconv"
	"strings"

	"silt/api"
	"silt/tree"
)

const (
	head    = "silt"
	lineEnd = "\n"
	blank   = " "
)

// The first word of a line that tells an entry.
const (
	directory = "d"
	file      = "f"
	link      = "l"
)

const (
	perLine = 32 // bytes of a file
	digits  = "0123456789abcdef"
)

// Of tells what is held. Nothing of the numbers of files is to be seen in it,
// for these hang on what was done, and not on what is held.
func Of(held *tree.Tree) string {
	var text strings.Builder
	var told [api.MaxNodes]string // of each file by its number: the path by which it was told
	line(&text, head)
	for item := range held.All() {
		switch item.Kind {
		case tree.Directory:
			line(&text, directory, item.Path)
		case tree.File:
			told[item.Number] = item.Path
			line(&text, file, item.Path, strconv.Itoa(len(item.Data)))
			lines(&text, item.Data)
		case tree.Link:
			line(&text, link, item.Path, told[item.Number])
		}
	}
	return text.String()
}

func line(text *strings.Builder, words ...string) {
	text.WriteString(strings.Join(words, blank))
	text.WriteString(lineEnd)
}

// lines tells the bytes of a file.
func lines(text *strings.Builder, data []byte) {
	for part := range slices.Chunk(data, perLine) {
		for _, b := range part {
			text.WriteByte(digits[b>>4])
			text.WriteByte(digits[b&15])
		}
		text.WriteString(lineEnd)
	}
}
