package promises

import (
	"fmt"
	"math/rand"
	"testing"

	"silt/api"
	"silt/silt"
)

// opened: Open of an image that must be one.
func opened(t *testing.T, image []byte) *silt.Volume {
	t.Helper()
	v, e := silt.Open(image)
	if v == nil || e != api.OK {
		t.Fatalf("Open: error %d", e)
	}
	return v
}

// kept is what was held at a Sync or a Clean, and how many flushes there were behind it.
type kept struct {
	state string
	end   int
}

// life is a Volume, and what was kept of it: at first, and at each Sync and Clean.
type life struct {
	*testing.T
	*rand.Rand
	v    *silt.Volume
	kept []kept
}

func newLife(t *testing.T, r *rand.Rand, v *silt.Volume) *life {
	return &life{t, r, v, []kept{{state(t, opened(t, v.Image())), 0}}}
}

func (l *life) sync() {
	l.Helper()
	must(l.T, l.v.Sync())
	l.note()
}

func (l *life) clean() {
	l.Helper()
	cleans(l.T, "life", l.v)
	l.note()
}

func (l *life) note() {
	l.Helper()
	l.kept = append(l.kept, kept{state(l.T, l.v), l.v.Epochs()})
}

// keep is a Sync, or now and then a Clean.
func (l *life) keep() {
	l.Helper()
	if l.Intn(3) == 0 {
		l.clean()
	} else {
		l.sync()
	}
}

// turn does something, whatever comes of it.
func (l *life) turn(size int) {
	p, q := fmt.Sprintf("/f%d", l.Intn(7)), fmt.Sprintf("/g%d", l.Intn(4))
	if l.Intn(3) == 0 {
		l.v.Mkdir("/d")
		p = "/d" + p
	}
	switch l.Intn(10) {
	case 0:
		l.v.Remove(p)
	case 1:
		l.v.Cut(p, l.Intn(size+1))
	case 2:
		l.v.Link(p, q)
	case 3:
		l.v.Move(p, q)
	case 4:
		l.v.Remove(q)
	case 5:
		l.v.Move("/d", "/e")
	default:
		data := make([]byte, 1+l.Intn(size))
		l.Read(data)
		l.v.Write(p, l.Intn(api.MaxFile-len(data)+1), data)
	}
}

// scatter changes, on a full disk, one block that then stays as it is for long, and some that the next turn changes again:
// so a little is needed wherever something was written.
func (l *life) scatter(turn int) {
	l.Helper()
	fresh := []byte{byte(turn), byte(turn >> 8)}
	stays := turn % (api.Capacity - 20)
	must(l.T, l.v.Write(fmt.Sprint("/b", stays/20), stays%20*api.Block, fresh))
	for i := range 12 {
		must(l.T, l.v.Write("/b7", i*api.Block, fresh))
	}
}

// fails lets the power fail, and holds what is opened then against what may be; it tells the Volume.
func (l *life) fails(epoch int, lost []bool) *silt.Volume {
	l.Helper()
	i := len(l.kept) - 1
	for i > 0 && l.kept[i].end > epoch {
		i--
	}
	old, fresh := l.kept[i].state, l.kept[i].state
	whole := false
	if i+1 < len(l.kept) && epoch >= 0 {
		fresh = l.kept[i+1].state
		whole = epoch == l.kept[i+1].end-1
	}
	for k := range min(len(lost), l.v.Writes(epoch)) {
		whole = whole && !lost[k]
	}
	w := opened(l.T, l.v.Broken(epoch, lost))
	got := state(l.T, w)
	if got != fresh && (got != old || whole) {
		l.Fatalf("epoch %d of %d, %v lost, the last one of a Sync or Clean and nothing lost: %v: it holds\n%s", epoch, l.v.Epochs(), lost, whole, got)
	}
	return w
}

// someLost: of n blocks none, all, each one alone, all but each one, and at random.
func (l *life) someLost(n int) [][]bool {
	all := [][]bool{nil, make([]bool, n)}
	but := func(rest bool, one int) {
		lost := make([]bool, n)
		for i := range lost {
			lost[i] = (i == one) != rest
		}
		all = append(all, lost)
	}
	but(true, -1)
	for i := range n {
		if n < 12 || l.Intn(n/6) == 0 {
			but(false, i)
			but(true, i)
		}
	}
	for range 4 {
		lost := make([]bool, l.Intn(n+3))
		for i := range lost {
			lost[i] = l.Intn(2) == 0
		}
		all = append(all, lost)
	}
	return all
}

// failsEverywhere lets the power fail in each epoch.
func (l *life) failsEverywhere() {
	l.Helper()
	for epoch := -2; epoch <= l.v.Epochs()+2; epoch++ {
		for _, lost := range l.someLost(l.v.Writes(epoch)) {
			l.fails(epoch, lost)
		}
	}
}
