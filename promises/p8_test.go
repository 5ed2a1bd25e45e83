package promises

import (
	"bytes"
	"math"
	"math/rand"
	"slices"
	"testing"

	"silt/api"
	"silt/silt"
)

// lostAll: of n blocks all are lost, but for the one of a number.
func lostAll(n int, but int) []bool {
	lost := slices.Repeat([]bool{true}, n)
	if but >= 0 {
		lost[but] = false
	}
	return lost
}

// differing tells how many blocks of two images differ.
func differing(a []byte, b []byte) int {
	n := 0
	for i := 0; i < len(a); i += api.Block {
		if !bytes.Equal(a[i:i+api.Block], b[i:i+api.Block]) {
			n++
		}
	}
	return n
}

func TestP8AtFirst(t *testing.T) {
	v := volume(t)
	dump := volume(t, "/a/", "/a/f", "/g").Dump()
	for i, v := range []*silt.Volume{v, opened(t, v.Image()), restored(t, "at first", dump)} {
		if v.Epochs() != 0 {
			t.Errorf("Volume %d: %d epochs", i, v.Epochs())
		}
		for _, n := range oddNumbers() {
			if got := v.Writes(n); got != 0 {
				t.Errorf("Volume %d: %d blocks written in epoch %d", i, got, n)
			}
			if !bytes.Equal(v.Broken(n, []bool{true, true}), v.Image()) {
				t.Errorf("Volume %d: Broken of epoch %d is not the Image", i, n)
			}
		}
		if len(v.Image()) != api.Blocks*api.Block {
			t.Errorf("Volume %d: %d bytes", i, len(v.Image()))
		}
	}
}

// TestP8Epochs: each epoch goes on from where the one ahead of it ended.
func TestP8Epochs(t *testing.T) {
	l := newLife(t, rand.New(rand.NewSource(1)), volume(t))
	first := l.v.Image()
	images := map[int][]byte{}
	for range 30 {
		l.turn(600)
		l.turn(600)
		l.sync()
		images[l.v.Epochs()-1] = l.v.Image()
	}
	l.turn(600)
	v := l.v
	for _, epoch := range []int{math.MinInt, -7, -1} {
		if !bytes.Equal(v.Broken(epoch, nil), first) || !bytes.Equal(v.Broken(epoch, []bool{true, false}), first) || v.Writes(epoch) != 0 {
			t.Errorf("epoch %d is not as at first", epoch)
		}
	}
	for _, epoch := range []int{v.Epochs(), v.Epochs() + 1, math.MaxInt} {
		if !bytes.Equal(v.Broken(epoch, nil), v.Image()) {
			t.Errorf("epoch %d is not as the Image", epoch)
		}
	}
	for _, epoch := range []int{v.Epochs() + 1, v.Epochs() + 2, math.MaxInt} {
		if !bytes.Equal(v.Broken(epoch, lostAll(999, -1)), v.Image()) || v.Writes(epoch) != 0 {
			t.Errorf("epoch %d is there already", epoch)
		}
	}
	ahead, written := first, 0
	for epoch := range v.Epochs() + 1 {
		n := v.Writes(epoch)
		written += n
		behind := v.Broken(epoch, nil)
		if !bytes.Equal(v.Broken(epoch, lostAll(n, -1)), ahead) || !bytes.Equal(v.Broken(epoch, lostAll(n+5, -1)), ahead) {
			t.Errorf("epoch %d: all is lost, and it is not as ahead of it", epoch)
		}
		if !bytes.Equal(v.Broken(epoch, make([]bool, n+5)), behind) || !bytes.Equal(v.Broken(epoch, make([]bool, n/2)), behind) {
			t.Errorf("epoch %d: nothing is lost, in other words", epoch)
		}
		if image := images[epoch]; image != nil && !bytes.Equal(behind, image) {
			t.Errorf("epoch %d: nothing is lost, and it is not as it was", epoch)
		}
		if d := differing(ahead, behind); d > n {
			t.Errorf("epoch %d: %d blocks are others, and %d were written", epoch, d, n)
		}
		ahead = behind
	}
	if written == 0 {
		t.Error("nothing was written")
	}
}

// TestP8Lost: each block by itself, in the order in which they were written.
func TestP8Lost(t *testing.T) {
	l := newLife(t, rand.New(rand.NewSource(2)), volume(t))
	for range 8 {
		l.turn(1000)
		l.sync()
	}
	for epoch := range l.v.Epochs() {
		n := l.v.Writes(epoch)
		none := l.v.Broken(epoch, lostAll(n, -1))
		// Laid one upon the other, the blocks make up what was written.
		sum := bytes.Clone(none)
		for i := range n {
			one := l.v.Broken(epoch, lostAll(n, i))
			if d := differing(none, one); d > 1 {
				t.Fatalf("epoch %d: all but the block %d are lost, and %d blocks are others", epoch, i, d)
			}
			for k := range one {
				if one[k] != none[k] {
					sum[k] = one[k]
				}
			}
			up := make([]bool, n)
			for k := i + 1; k < n; k++ {
				up[k] = true
			}
			if !bytes.Equal(l.v.Broken(epoch, up), sum) {
				t.Fatalf("epoch %d: lost from the block %d on", epoch, i+1)
			}
		}
	}
}

// TestP8Asking: who asks changes nothing.
func TestP8Asking(t *testing.T) {
	l := newLife(t, rand.New(rand.NewSource(3)), volume(t))
	for range 5 {
		l.turn(500)
		l.sync()
	}
	l.turn(500)
	held, image, epochs := state(t, l.v), l.v.Image(), l.v.Epochs()
	lost := []bool{true, false, true}
	for epoch := -1; epoch < epochs+2; epoch++ {
		clear(l.v.Broken(epoch, lost))
		l.v.Writes(epoch)
	}
	clear(l.v.Image())
	if !slices.Equal(lost, []bool{true, false, true}) {
		t.Error("what was handed in is changed")
	}
	if state(t, l.v) != held || !bytes.Equal(l.v.Image(), image) || l.v.Epochs() != epochs {
		t.Error("something is changed")
	}
}
