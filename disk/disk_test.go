package disk

import (
	"bytes"
	"math"
	"slices"
	"testing"

	"silt/api"
)

const size = api.Blocks * api.Block

func block(b byte) Block {
	return Block(bytes.Repeat([]byte{b}, api.Block))
}

// written: blocks of 1 at 3, 2 at 5 in epoch 0; none in epoch 1; 3 at 5, 4 at 5, 5 at 7 in epoch 2; 6 at 3 behind the last flush.
func written() *Disk {
	d := New()
	d.Write(Piece{3, block(1)})
	d.Write(Piece{5, block(2)})
	d.Flush()
	d.Flush()
	d.Write(Piece{5, block(3)})
	d.Write(Piece{5, block(4)})
	d.Write(Piece{7, block(5)})
	d.Flush()
	d.Write(Piece{3, block(6)})
	return d
}

// at tells the first bytes of the blocks 3, 5 and 7, and faults all others.
func at(t *testing.T, image []byte) [3]byte {
	t.Helper()
	if len(image) != size {
		t.Fatalf("%d bytes", len(image))
	}
	for i, b := range image {
		if place := i / api.Block; (place == 3 || place == 5 || place == 7) && b != image[place*api.Block] || place > 7 && b != 0 {
			t.Fatalf("the byte %d is %d", i, b)
		}
	}
	return [3]byte{image[3*api.Block], image[5*api.Block], image[7*api.Block]}
}

func TestEpochs(t *testing.T) {
	d := written()
	if d.Epochs() != 3 {
		t.Errorf("%d epochs", d.Epochs())
	}
	for _, c := range []struct{ epoch, want int }{{math.MinInt, 0}, {-1, 0}, {0, 2}, {1, 0}, {2, 3}, {3, 1}, {4, 0}, {math.MaxInt, 0}} {
		if got := d.Writes(c.epoch); got != c.want {
			t.Errorf("epoch %d: %d blocks, want %d", c.epoch, got, c.want)
		}
	}
	if got := at(t, d.Image()); got != [3]byte{6, 4, 5} {
		t.Errorf("the image has %d", got)
	}
}

func TestBroken(t *testing.T) {
	d := written()
	for i, c := range []struct {
		epoch int
		lost  []bool
		want  [3]byte
	}{
		{math.MinInt, nil, [3]byte{}}, {-1, []bool{false, true}, [3]byte{}},
		{0, nil, [3]byte{1, 2, 0}}, {0, []bool{true}, [3]byte{0, 2, 0}}, {0, []bool{false, true}, [3]byte{1, 0, 0}}, {0, []bool{true, true, true, true}, [3]byte{}},
		{1, []bool{true, true}, [3]byte{1, 2, 0}},
		{2, nil, [3]byte{1, 4, 5}}, {2, []bool{false, true}, [3]byte{1, 3, 5}}, {2, []bool{true, true}, [3]byte{1, 2, 5}}, {2, []bool{true, false, true}, [3]byte{1, 4, 0}}, {2, []bool{true, true, true, true}, [3]byte{1, 2, 0}},
		{3, nil, [3]byte{6, 4, 5}}, {3, []bool{true}, [3]byte{1, 4, 5}},
		{4, []bool{true}, [3]byte{6, 4, 5}}, {math.MaxInt, []bool{true}, [3]byte{6, 4, 5}},
	} {
		lost := slices.Clone(c.lost)
		if got := at(t, d.Broken(c.epoch, lost)); got != c.want {
			t.Errorf("case %d: %d, want %d", i, got, c.want)
		}
		if !slices.Equal(lost, c.lost) {
			t.Errorf("case %d: what was handed in is changed", i)
		}
	}
}

func TestBegin(t *testing.T) {
	d := written()
	d.Begin()
	if d.Epochs() != 0 || d.Writes(0) != 0 {
		t.Errorf("%d epochs, %d blocks", d.Epochs(), d.Writes(0))
	}
	d.Write(Piece{7, block(9)})
	for epoch, want := range map[int][3]byte{-1: {6, 4, 5}, 0: {6, 4, 9}, 1: {6, 4, 9}} {
		if got := at(t, d.Broken(epoch, nil)); got != want {
			t.Errorf("epoch %d: %d, want %d", epoch, got, want)
		}
	}
}

func TestOf(t *testing.T) {
	for _, n := range []int{0, 1, api.Block, size - api.Block, size - 1, size + 1, 2 * size} {
		if d, ok := Of(make([]byte, n)); ok || d != nil {
			t.Errorf("a disk of %d bytes", n)
		}
	}
	image := make([]byte, size)
	for i := range image {
		image[i] = byte(i * 7)
	}
	given := bytes.Clone(image)
	d, ok := Of(given)
	if !ok {
		t.Fatal("no disk")
	}
	clear(given)
	d.Write(Piece{0, block(1)})
	if !bytes.Equal(d.Broken(-1, nil), image) {
		t.Error("at first it was another")
	}
	copy(image, bytes.Repeat([]byte{1}, api.Block))
	if !bytes.Equal(d.Image(), image) || d.At(0) != block(1) || d.At(api.Blocks-1) != Block(image[size-api.Block:]) {
		t.Error("now it is another")
	}
	clear(d.Image())
	clear(d.Broken(0, nil))
	clear(d.Broken(-1, nil))
	if !bytes.Equal(d.Image(), image) {
		t.Error("what was told is the disk's own")
	}
}
