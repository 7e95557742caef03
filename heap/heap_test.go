package heap

import (
	"math"
	"testing"
)

// held is a heap whose answers are held against those that it must give.
type held struct {
	*testing.T
	h *Heap
}

func newHeld(t *testing.T, size int) held {
	t.Helper()
	h := New(size)
	if h == nil {
		t.Fatalf("New(%d): none", size)
	}
	return held{t, h}
}

// alloc makes a block, which must begin at a word.
func (d held) alloc(n, at int) {
	d.Helper()
	if got, ok := d.h.Alloc(n); got != at || !ok {
		d.Errorf("Alloc(%d): %d %v, not %d", n, got, ok, at)
	}
}

// full asks for blocks that there must be no room for.
func (d held) full(sizes ...int) {
	d.Helper()
	for _, n := range sizes {
		if got, ok := d.h.Alloc(n); got != 0 || ok {
			d.Errorf("Alloc(%d): %d %v, not 0 false", n, got, ok)
		}
	}
}

// free takes blocks away, which must be there.
func (d held) free(words ...int) {
	d.Helper()
	for _, at := range words {
		if !d.h.Free(at) {
			d.Errorf("Free(%d): false", at)
		}
	}
}

// keeps asks for blocks to be taken away that must not be there.
func (d held) keeps(words ...int) {
	d.Helper()
	for _, at := range words {
		if d.h.Free(at) {
			d.Errorf("Free(%d): true", at)
		}
	}
}

func (d held) has(words ...int) {
	d.Helper()
	for _, at := range words {
		if !d.h.Has(at) {
			d.Errorf("Has(%d): false", at)
		}
	}
}

func (d held) lacks(words ...int) {
	d.Helper()
	for _, at := range words {
		if d.h.Has(at) {
			d.Errorf("Has(%d): true", at)
		}
	}
}

func (d held) count(n int) {
	d.Helper()
	if got := d.h.Count(); got != n {
		d.Errorf("Count: %d, not %d", got, n)
	}
}

// P35: at first there are no blocks; they come one behind the other, till there is no room.
func TestBlocksInARow(t *testing.T) {
	d := newHeld(t, 6)
	d.count(0)
	d.lacks(0, 1, 2, 3, 4, 5, 6, 7)
	d.keeps(0, 1, 6, 7)
	d.alloc(1, 1)
	d.alloc(3, 2)
	d.full(3)
	d.alloc(2, 5)
	d.full(1, 2, 6)
	d.count(3)
	d.has(1, 2, 3, 4, 5, 6)
	d.lacks(0, 7)
}

// gapped is a heap of 30 words with gaps of 2 at 4, of 4 at 9, of 3 at 17, of 4 at 21, and 3 words behind all blocks.
func gapped(t *testing.T) held {
	t.Helper()
	d := newHeld(t, 30)
	for _, block := range [][2]int{{3, 1}, {2, 4}, {3, 6}, {4, 9}, {4, 13}, {3, 17}, {1, 20}, {4, 21}, {3, 25}} {
		d.alloc(block[0], block[1])
	}
	d.free(9, 4, 21, 17)
	d.count(5)
	return d
}

// P35: a block comes to the least place that has room: a gap that is too small is left out, one that is just large enough is filled, of a larger one the rest stays.
func TestLeastPlace(t *testing.T) {
	places := [][2]int{{1, 4}, {2, 4}, {3, 9}, {4, 9}}
	for _, place := range places {
		d := gapped(t)
		d.alloc(place[0], place[1])
		d.count(6)
		d.has(place[1], place[1]+place[0]-1)
	}
	gapped(t).full(5, 6, 30, 31)

	d := gapped(t)
	d.alloc(3, 9) // of 4 words one stays
	d.alloc(2, 4) // all words of the gap
	d.alloc(2, 17)
	d.alloc(1, 12)
	d.alloc(1, 19)
	d.alloc(3, 21)
	d.alloc(2, 28) // behind all blocks, as one word alone is left at 24
	d.alloc(1, 24)
	d.full(2)
	d.alloc(1, 30)
	d.full(1)
	d.count(14)
}

// P35: gaps next to each other are one place.
func TestGapsGrow(t *testing.T) {
	blocks := []int{1, 3, 5, 7, 9}
	for _, order := range [][]int{{3, 5, 7}, {7, 5, 3}, {3, 7, 5}, {5, 3, 7}} {
		d := newHeld(t, 10)
		for _, at := range blocks {
			d.alloc(2, at)
		}
		d.free(order[:2]...)
		d.full(5, 6)
		d.free(order[2])
		d.full(7)
		d.alloc(6, 3)
		d.full(1)
		d.has(1, 2, 3, 8, 9, 10)
	}

	d := newHeld(t, 10)
	for _, at := range blocks {
		d.alloc(2, at)
	}
	d.free(1, 9)
	d.full(3)
	d.free(7)
	d.alloc(4, 7) // up to the end
	d.free(3)
	d.alloc(4, 1) // from the beginning on
	d.full(1)
	d.count(3)
}

// P35: blocks of less than 1 word are never made, and asking for them changes nothing.
func TestNoSuchBlock(t *testing.T) {
	d := newHeld(t, 3)
	none := []int{0, -1, -3, math.MinInt, math.MinInt + 1}
	d.full(none...)
	d.full(4, 5, math.MaxInt)
	d.count(0)
	d.lacks(1, 2, 3)
	d.alloc(2, 1)
	d.full(none...)
	d.full(2, 3, math.MaxInt)
	d.count(1)
	d.alloc(1, 3)
	d.full(none...)
	d.count(2)
}

// P35: of heaps of less than 1 word there is no word.
func TestNoWords(t *testing.T) {
	for _, size := range []int{0, -1, -7, math.MinInt, math.MinInt + 1} {
		d := newHeld(t, size)
		d.full(0, 1, 2, -1, size, math.MaxInt, math.MinInt)
		d.lacks(0, 1, 2, -1, size, size+1, math.MaxInt, math.MinInt)
		d.keeps(0, 1, 2, -1, size, size+1, math.MaxInt, math.MinInt)
		d.count(0)
	}
}

// A heap that New has not made has no words either, and no call of it panics (P1).
func TestNotMade(t *testing.T) {
	for _, h := range []*Heap{nil, {}} {
		d := held{t, h}
		d.full(0, 1)
		d.keeps(0, 1)
		d.lacks(0, 1)
		d.count(0)
	}
}

// P35: heaps and blocks of as many words as an int can tell.
func TestGreatest(t *testing.T) {
	d := newHeld(t, math.MaxInt)
	d.lacks(1, math.MaxInt, math.MinInt, 0)
	d.keeps(1, math.MaxInt, math.MinInt, 0)
	d.alloc(math.MaxInt, 1)
	d.full(1, math.MaxInt)
	d.has(1, 2, math.MaxInt-1, math.MaxInt)
	d.lacks(0, -1, math.MinInt, math.MinInt+1)
	d.keeps(0, 2, math.MaxInt, math.MinInt)
	d.count(1)
	d.free(1)
	d.lacks(1, math.MaxInt)
	d.alloc(math.MaxInt-1, 1)
	d.full(2)
	d.lacks(math.MaxInt)
	d.alloc(1, math.MaxInt)
	d.full(1)
	d.has(math.MaxInt)
	d.free(1)
	d.full(math.MaxInt)
	d.lacks(1, math.MaxInt-1)
	d.has(math.MaxInt)
	d.alloc(math.MaxInt/2, 1)
	d.alloc(math.MaxInt/2, math.MaxInt/2+1)
	d.full(1)
	d.keeps(math.MaxInt/2, math.MaxInt/2+2)
	d.free(math.MaxInt/2+1, math.MaxInt, 1)
	d.count(0)
	d.alloc(math.MaxInt, 1)

	d = newHeld(t, math.MaxInt-1)
	d.full(math.MaxInt)
	d.alloc(math.MaxInt-1, 1)
	d.has(math.MaxInt - 1)
	d.lacks(math.MaxInt, math.MinInt)
	d.keeps(math.MaxInt, math.MinInt)

	d = newHeld(t, 1)
	d.full(math.MaxInt, 2)
	d.alloc(1, 1)
	d.full(1)
	d.has(1)
	d.lacks(0, 2, math.MaxInt, math.MinInt)
}

// P35: only where a block begins it is taken away: not within it, not beside it, not in a gap, not twice.
func TestFreeWhereItBegins(t *testing.T) {
	d := newHeld(t, 12)
	d.alloc(3, 1)
	d.alloc(4, 4)
	d.alloc(2, 8)
	d.keeps(0, -1, 2, 3, 5, 6, 7, 9, 10, 11, 12, 13, 14, -4, math.MaxInt, math.MinInt)
	d.count(3)
	d.has(1, 2, 3, 4, 5, 6, 7, 8, 9)
	d.free(4)
	d.keeps(4, 5, 6, 7)
	d.count(2)
	d.lacks(4, 5, 6, 7)
	d.has(1, 2, 3, 8, 9)
	d.alloc(2, 4)
	d.keeps(5, 6, 7)
	d.alloc(2, 6)
	d.keeps(5, 7)
	d.free(6)
	d.keeps(6, 7)
	d.free(4)
	d.keeps(4, 5, 6)
	d.free(8)
	d.keeps(8, 9)
	d.free(1)
	d.keeps(1, 2, 3, 12, 13)
	d.count(0)
}

// P35: Has at the first word of a block, the last one, and the words beside it.
func TestHas(t *testing.T) {
	d := newHeld(t, 9)
	d.alloc(2, 1)
	d.alloc(3, 3)
	d.alloc(2, 6)
	d.free(1)
	d.free(6)
	d.has(3, 4, 5)
	d.lacks(1, 2, 6, 7, 8, 9, 0, 10, -3, -1, math.MaxInt, math.MinInt)
	d.alloc(1, 1)
	d.alloc(4, 6)
	d.has(1, 3, 4, 5, 6, 7, 8, 9)
	d.lacks(2, 0, 10)
}

// P35: Count goes up by what is made, down by what is taken away, and by nothing else.
func TestCount(t *testing.T) {
	d := newHeld(t, 5)
	for n := range 5 {
		d.count(n)
		d.alloc(1, n+1)
	}
	d.count(5)
	d.full(1, 0)
	d.keeps(0, 6)
	d.has(1)
	d.count(5)
	for n, at := range []int{3, 1, 5, 2, 4} {
		d.free(at)
		d.count(4 - n)
		d.keeps(at)
		d.count(4 - n)
	}
}

// P35: what is done to one heap is not seen in another one.
func TestTwoHeaps(t *testing.T) {
	a, b := newHeld(t, 5), newHeld(t, 5)
	a.alloc(5, 1)
	b.count(0)
	b.lacks(1, 5)
	b.keeps(1)
	b.alloc(2, 1)
	b.alloc(3, 3)
	a.keeps(3)
	a.count(1)
	a.free(1)
	b.count(2)
	b.has(1, 2, 3, 4, 5)
	b.full(1)
	a.alloc(3, 1)
	b.free(3)
	a.has(3)
	a.lacks(4)
	b.lacks(3)
	b.free(1)
	a.keeps(3)
	a.alloc(2, 4)
	b.count(0)
	a.count(2)
}

// P36: when all blocks have been taken away, in whatever order, all words are one block again.
func TestWholeAgain(t *testing.T) {
	orders := [][]int{{1, 3, 4, 8}, {8, 4, 3, 1}, {3, 8, 1, 4}, {4, 1, 8, 3}, {8, 1, 4, 3}}
	for _, order := range orders {
		d := newHeld(t, 9)
		d.alloc(2, 1)
		d.alloc(1, 3)
		d.alloc(4, 4)
		d.alloc(2, 8)
		for _, at := range order {
			d.full(9)
			d.free(at)
		}
		d.full(10)
		d.alloc(9, 1)
		d.full(1)
	}
}
