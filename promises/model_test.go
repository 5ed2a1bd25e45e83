package promises

import (
	"bytes"
	"fmt"
	"maps"
	"math/rand"
	"path"
	"regexp"
	"slices"
	"strings"
	"testing"

	"silt/api"
	"silt/silt"
)

// thing is a node of the model: a file, or a directory of which only the being there counts.
type thing struct {
	dir  bool
	data []byte
}

// model is a Volume made as plainly as can be: each node by each of its paths.
type model map[string]*thing

var aPath = regexp.MustCompile(`^(/|(/[a-z0-9._-]{1,12}){1,6})$`)
var aDot = regexp.MustCompile(`/\.\.?(/|$)`)

func isPath(p string) bool { return aPath.MatchString(p) && !aDot.MatchString(p) }

func newModel() model { return model{"/": {dir: true}} }

// ahead goes through the names ahead of the last one.
func (m model) ahead(p string) api.Errno {
	for i := 1; i < len(p); i++ {
		if p[i] != '/' {
			continue
		}
		if m[p[:i]] == nil {
			return api.ErrNone
		}
		if !m[p[:i]].dir {
			return api.ErrFile
		}
	}
	return api.OK
}

// one: ErrPath, ErrRange, and the names ahead.
func (m model) one(p string, fits bool) api.Errno {
	if !isPath(p) {
		return api.ErrPath
	}
	if !fits {
		return api.ErrRange
	}
	return m.ahead(p)
}

func (m model) entries(dir string) []string {
	var all []string
	for p := range m {
		if p != "/" && path.Dir(p) == dir {
			all = append(all, p)
		}
	}
	slices.Sort(all)
	return all
}

func (m model) nodes() map[*thing]int {
	links := map[*thing]int{}
	for _, x := range m {
		links[x]++
	}
	return links
}

func (m model) usage() int {
	n := 0
	for x := range m.nodes() {
		n += (len(x.data) + 63) / 64
	}
	return n
}

func (m model) many(p string, node int) bool {
	return len(m.entries(path.Dir(p))) == 20 || len(m) == 101 || len(m.nodes())+node > 60
}

func (m model) mkdir(p string) api.Errno {
	if e := m.one(p, true); e != api.OK {
		return e
	}
	if m[p] != nil {
		return api.ErrThere
	}
	if m.many(p, 1) {
		return api.ErrMany
	}
	m[p] = &thing{dir: true}
	return api.OK
}

func (m model) remove(p string) api.Errno {
	if e := m.one(p, true); e != api.OK {
		return e
	}
	if m[p] == nil {
		return api.ErrNone
	}
	if p == "/" || len(m.entries(p)) > 0 {
		return api.ErrBusy
	}
	delete(m, p)
	return api.OK
}

func (m model) link(from, to string) api.Errno {
	if !isPath(from) || !isPath(to) {
		return api.ErrPath
	}
	if e := m.file(from, true); e != api.OK {
		return e
	}
	if e := m.ahead(to); e != api.OK {
		return e
	}
	if m[to] != nil {
		return api.ErrThere
	}
	if m.many(to, 0) {
		return api.ErrMany
	}
	m[to] = m[from]
	return api.OK
}

func (m model) move(from, to string) api.Errno {
	if !isPath(from) || !isPath(to) {
		return api.ErrPath
	}
	if e := m.ahead(from); e != api.OK {
		return e
	}
	if m[from] == nil {
		return api.ErrNone
	}
	if from == "/" || m[from].dir && strings.HasPrefix(to, from+"/") {
		return api.ErrBusy
	}
	if e := m.ahead(to); e != api.OK {
		return e
	}
	if m[to] != nil {
		return api.ErrThere
	}
	if path.Dir(from) != path.Dir(to) && len(m.entries(path.Dir(to))) == 20 {
		return api.ErrMany
	}
	moved := map[string]*thing{}
	for p, x := range m {
		if p != from && !strings.HasPrefix(p, from+"/") {
			moved[p] = x
			continue
		}
		if strings.Count(to+p[len(from):], "/") > 6 {
			return api.ErrMany
		}
		moved[to+p[len(from):]] = x
	}
	clear(m)
	maps.Copy(m, moved)
	return api.OK
}

// file: the errors of a file that must be there.
func (m model) file(p string, fits bool) api.Errno {
	if e := m.one(p, fits); e != api.OK {
		return e
	}
	if m[p] == nil {
		return api.ErrNone
	}
	if m[p].dir {
		return api.ErrDir
	}
	return api.OK
}

func (m model) write(p string, at int, data []byte) api.Errno {
	e := m.file(p, at >= 0 && at+len(data) <= 1280)
	made := e == api.ErrNone && m.ahead(p) == api.OK
	if e != api.OK && !made {
		return e
	}
	if made && m.many(p, 1) {
		return api.ErrMany
	}
	old := &thing{}
	if !made {
		old = m[p]
	}
	before := old.data
	m[p] = old
	if len(data) > 0 {
		tail := before[min(len(before), at+len(data)):]
		head := append(slices.Clone(before), make([]byte, 1280)...)[:at]
		old.data = slices.Concat(head, data, tail)
	}
	if m.usage() <= 160 {
		return api.OK
	}
	old.data = before
	if made {
		delete(m, p)
	}
	return api.ErrFull
}

func (m model) cut(p string, size int) api.Errno {
	if e := m.file(p, size >= 0 && size <= 1280); e != api.OK {
		return e
	}
	before := m[p].data
	m[p].data = append(slices.Clone(before), make([]byte, 1280)...)[:size]
	if m.usage() > 160 {
		m[p].data = before
		return api.ErrFull
	}
	return api.OK
}

func (m model) read(p string, at, n int) ([]byte, api.Errno) {
	if e := m.file(p, at >= 0 && n >= 0); e != api.OK {
		return nil, e
	}
	rest := m[p].data[min(at, len(m[p].data)):]
	return rest[:min(n, len(rest))], api.OK
}

func (m model) stat(p string) (api.Entry, api.Errno) {
	if e := m.one(p, true); e != api.OK {
		return api.Entry{}, e
	}
	x := m[p]
	if x == nil {
		return api.Entry{}, api.ErrNone
	}
	name := strings.TrimPrefix(path.Base(p), "/")
	if x.dir {
		return api.Entry{Name: name, Dir: true, Size: len(m.entries(p)), Links: 1}, api.OK
	}
	return api.Entry{Name: name, Size: len(x.data), Links: m.nodes()[x]}, api.OK
}

func (m model) list(p string) ([]api.Entry, api.Errno) {
	if e := m.file(p, true); e != api.ErrDir && e != api.OK {
		return nil, e
	}
	if !m[p].dir {
		return nil, api.ErrFile
	}
	var all []api.Entry
	for _, q := range m.entries(p) {
		x, _ := m.stat(q)
		all = append(all, x)
	}
	return all, api.OK
}

// play is how a random walk is made: of which names, how deep, how large, and how often it takes away.
type play struct {
	names  int
	depth  int
	bytes  int
	remove int
	odds   string // one letter a call: d Mkdir, w Write, c Cut, l Link, m Move
}

type walk struct {
	*rand.Rand
	play
}

func (w walk) path() string {
	if w.Intn(40) == 0 {
		return []string{"", "/", "a", "/a/", "//", "/A", "/..", "/n0/.", "/abcdefghijklm", "/n0/n0/n0/n0/n0/n0/n0"}[w.Intn(10)]
	}
	p := ""
	for range 1 + w.Intn(w.depth) {
		p += fmt.Sprintf("/n%d", w.Intn(w.names))
	}
	return p
}

// number is below a limit, or now and then just around it, or below 0.
func (w walk) number(limit int) int {
	switch w.Intn(12) {
	case 0:
		return limit - 1 + w.Intn(3)
	case 1:
		return w.Intn(3) - 1
	}
	return w.Intn(w.bytes)
}

// step does one thing to both, and tells what it was and what both answered.
func (w walk) step(v *silt.Volume, m model) (string, api.Errno, api.Errno) {
	p, q := w.path(), w.path()
	if w.Intn(100) < w.remove {
		return "Remove " + p, v.Remove(p), m.remove(p)
	}
	switch w.odds[w.Intn(len(w.odds))] {
	case 'd':
		return "Mkdir " + p, v.Mkdir(p), m.mkdir(p)
	case 'w':
		at, data := w.number(1280), make([]byte, max(0, w.number(1280)))
		w.Read(data)
		return fmt.Sprintf("Write %s %d %d", p, at, len(data)), v.Write(p, at, bytes.Clone(data)), m.write(p, at, data)
	case 'c':
		n := w.number(1280)
		return fmt.Sprintf("Cut %s %d", p, n), v.Cut(p, n), m.cut(p, n)
	case 'l':
		return fmt.Sprintf("Link %s %s", p, q), v.Link(p, q), m.link(p, q)
	}
	return fmt.Sprintf("Move %s %s", p, q), v.Move(p, q), m.move(p, q)
}

// look asks both for what stands at a path.
func (w walk) look(t *testing.T, v *silt.Volume, m model, p string) {
	t.Helper()
	x, e := v.Stat(p)
	if y, f := m.stat(p); x != y || e != f {
		t.Fatalf("Stat(%q): %+v, error %d, want %+v, error %d", p, x, e, y, f)
	}
	l, e := v.List(p)
	if k, f := m.list(p); !slices.Equal(l, k) || e != f {
		t.Fatalf("List(%q): %+v, error %d, want %+v, error %d", p, l, e, k, f)
	}
	at, n := w.number(1280), w.number(1280)
	b, e := v.Read(p, at, n)
	if c, f := m.read(p, at, n); !bytes.Equal(b, c) || e != f {
		t.Fatalf("Read(%q, %d, %d): %q, error %d, want %q, error %d", p, at, n, b, e, c, f)
	}
}

func (w walk) lookAtAll(t *testing.T, v *silt.Volume, m model) {
	t.Helper()
	for p, x := range m {
		w.look(t, v, m, p)
		if !x.dir && content(t, v, p) != string(x.data) {
			t.Fatalf("%s holds other bytes", p)
		}
	}
}

// again keeps what is held, in one of both ways, and opens it, or restores it from its Dump;
// Check and Dump must tell of it what the model does.
func (w walk) again(t *testing.T, v *silt.Volume, m model) *silt.Volume {
	t.Helper()
	if w.Intn(2) == 0 {
		must(t, v.Sync())
	} else if n := v.Clean(); n < 0 || n%api.Block != 0 {
		t.Fatalf("Clean: %d", n)
	}
	r, e := silt.Check(v.Image())
	if e != api.OK || r.Nodes != len(m.nodes()) || r.Usage != m.usage() {
		t.Fatalf("Check: %+v, error %d, want %d nodes, of the usage %d", r, e, len(m.nodes()), m.usage())
	}
	dumps(t, "walk", v, m.dump())
	if w.Intn(2) == 0 {
		return restored(t, "walk", v.Dump())
	}
	return opened(t, v.Image())
}

// TestModel goes randomly, and holds the program against the model.
func TestModel(t *testing.T) {
	plays := []play{
		{names: 3, depth: 6, bytes: 200, remove: 10, odds: "ddddwwclmm"},
		{names: 25, depth: 2, bytes: 100, remove: 4, odds: "ddwwllllm"},
		{names: 22, depth: 3, bytes: 100, remove: 2, odds: "dllllllllm"},
		{names: 24, depth: 2, bytes: 60, remove: 1, odds: "ddwwwlm"},
		{names: 5, depth: 3, bytes: 1280, remove: 6, odds: "dwwwwccclm"},
		{names: 2, depth: 6, bytes: 60, remove: 3, odds: "dddwmmm"},
		{names: 21, depth: 2, bytes: 60, remove: 0, odds: "dwm"},
	}
	seen := map[string]int{}
	for i, pl := range plays {
		for seed := range 3 {
			w := walk{rand.New(rand.NewSource(int64(10*i + seed))), pl}
			v, m := volume(t), newModel()
			for k := range 1200 {
				what, got, want := w.step(v, m)
				call, _, _ := strings.Cut(what, " ")
				seen[fmt.Sprint(call, " ", int(want))]++
				if got != want {
					t.Fatalf("play %d, seed %d, step %d: %s: error %d, want %d", i, seed, k, what, got, want)
				}
				if got, want := v.Usage(), m.usage(); got != want {
					t.Fatalf("play %d, seed %d, step %d: %s: usage %d, want %d", i, seed, k, what, got, want)
				}
				w.look(t, v, m, w.path())
				if k%40 == 0 {
					w.lookAtAll(t, v, m)
				}
				if k%70 == 0 {
					v = w.again(t, v, m)
				}
			}
			w.lookAtAll(t, v, m)
		}
	}
	// A walk that no longer comes upon an error would hold nothing against it.
	for _, x := range []string{
		"Mkdir 0", "Mkdir 1", "Mkdir 3", "Mkdir 4", "Mkdir 6", "Mkdir 8",
		"Remove 0", "Remove 1", "Remove 3", "Remove 4", "Remove 7",
		"Link 0", "Link 1", "Link 3", "Link 4", "Link 5", "Link 6", "Link 8",
		"Move 0", "Move 1", "Move 3", "Move 4", "Move 6", "Move 7", "Move 8",
		"Write 0", "Write 1", "Write 2", "Write 3", "Write 4", "Write 5", "Write 8", "Write 9",
		"Cut 0", "Cut 1", "Cut 2", "Cut 3", "Cut 4", "Cut 5", "Cut 9",
	} {
		if seen[x] < 3 {
			t.Errorf("the walk came upon %q %d times only", x, seen[x])
		}
	}
}
