package heap

import (
	"math"
	"math/rand"
	"testing"
)

// words is a heap as the chapter tells it: of each word which block it is in, by that block's first word, or 0. Word 0 is none.
type words []int

func newWords(size int) words { return make(words, max(size, 0)+1) }

// alloc tries each place, and at each place each word.
func (w words) alloc(n int) (int, bool) {
	if n < 1 {
		return 0, false
	}
place:
	for at := 1; at < len(w); at++ {
		for k := range n {
			if at+k >= len(w) || w[at+k] != 0 {
				continue place
			}
		}
		for k := range n {
			w[at+k] = at
		}
		return at, true
	}
	return 0, false
}

func (w words) free(at int) bool {
	if at < 1 || at >= len(w) || w[at] != at {
		return false
	}
	for k := range w {
		if w[k] == at {
			w[k] = 0
		}
	}
	return true
}

func (w words) has(at int) bool { return at > 0 && at < len(w) && w[at] != 0 }

func (w words) count() int {
	n := 0
	for at := 1; at < len(w); at++ {
		if w[at] == at {
			n++
		}
	}
	return n
}

// both is a heap with what it must be like.
type both struct {
	h *Heap
	w words
}

func newBoth(size int) both { return both{New(size), newWords(size)} }

// alloc makes a block in both, and looks whether all is alike behind it.
func (b both) alloc(t *testing.T, n int) {
	t.Helper()
	at, ok := b.h.Alloc(n)
	if wantAt, want := b.w.alloc(n); at != wantAt || ok != want {
		t.Fatalf("Alloc(%d): %d %v, not %d %v, of %v", n, at, ok, wantAt, want, b.w)
	}
	b.look(t)
}

// free takes a block away from both, and looks whether all is alike behind it.
func (b both) free(t *testing.T, at int) {
	t.Helper()
	if ok, want := b.h.Free(at), b.w.free(at); ok != want {
		t.Fatalf("Free(%d): %v, of %v", at, ok, b.w)
	}
	b.look(t)
}

// look looks at each word, and at some that are none.
func (b both) look(t *testing.T) {
	t.Helper()
	for at := -2; at < len(b.w)+3; at++ {
		if b.h.Has(at) != b.w.has(at) {
			t.Fatalf("Has(%d): %v, of %v", at, b.h.Has(at), b.w)
		}
	}
	if b.h.Count() != b.w.count() {
		t.Fatalf("Count: %d, of %v", b.h.Count(), b.w)
	}
	lookThrough(t, b.h)
}

// drain takes all blocks away, in an order, and asks for the whole heap as one block.
func (b both) drain(t *testing.T, order []int) {
	t.Helper()
	for _, k := range order {
		b.free(t, k+1)
	}
	size := len(b.w) - 1
	if b.h.Count() != 0 {
		t.Fatalf("Count: %d when all are gone", b.h.Count())
	}
	b.alloc(t, size+1)
	b.alloc(t, size)
	if b.h.Count() != min(size, 1) {
		t.Fatalf("Count: %d with the whole as one block of %d", b.h.Count(), size)
	}
}

// sizeOf is the size of the next block of a row: rows have blocks of their own kind.
func sizeOf(r *rand.Rand, kind, size int) int {
	switch kind {
	case 0:
		return 1
	case 1:
		return 1 + r.Intn(3)
	case 2:
		return r.Intn(size+3) - 1
	}
	return 1 << r.Intn(5)
}

// wordOf is a word to be freed: mostly one at which a block begins, if there is any.
func wordOf(r *rand.Rand, w words) int {
	if r.Intn(6) > 0 {
		for _, at := range r.Perm(len(w)) {
			if at > 0 && w[at] == at {
				return at
			}
		}
	}
	return r.Intn(len(w)+4) - 2
}

// P35, P36: rows of Alloc and Free come to what they come to when each word is looked at; when all blocks are gone, the whole heap can be had as one block.
func TestMadeRows(t *testing.T) {
	r := rand.New(rand.NewSource(35))
	for row := range 400 {
		size := r.Intn(70)
		b := newBoth(size)
		kind, often := row%4, 1+r.Intn(9)
		for range r.Intn(300) {
			if r.Intn(10) < often {
				b.alloc(t, sizeOf(r, kind, size))
			} else {
				b.free(t, wordOf(r, b.w))
			}
		}
		b.drain(t, r.Perm(size))
	}
}

// P35, P36: all rows of a few calls, on heaps of a few words.
func TestAllRows(t *testing.T) {
	const calls = 4
	for size := range 5 {
		rows := 1
		choices := 2 * (size + 2)
		for range calls {
			rows *= choices
		}
		for row := range rows {
			b := newBoth(size)
			rest := row
			for range calls {
				if n := rest % choices / 2; rest%2 == 0 {
					b.alloc(t, n)
				} else {
					b.free(t, n)
				}
				rest /= choices
			}
			b.drain(t, rand.New(rand.NewSource(int64(row))).Perm(size))
		}
	}
}

// P35: rows of calls to two heaps in turn: each is as if there were no other one.
func TestRowsSideBySide(t *testing.T) {
	r := rand.New(rand.NewSource(36))
	for range 60 {
		size := 1 + r.Intn(40)
		pair := [2]both{newBoth(size), newBoth(size)}
		for range 120 {
			b := pair[r.Intn(2)]
			if r.Intn(10) < 6 {
				b.alloc(t, 1+r.Intn(5))
			} else {
				b.free(t, wordOf(r, b.w))
			}
			pair[0].look(t)
			pair[1].look(t)
		}
		pair[0].drain(t, r.Perm(size))
		pair[1].look(t)
	}
}

// spans are the blocks of a heap that is too great for its words to be looked at: first words and sizes, in their order.
type spans struct {
	size   int
	blocks [][2]int
}

func (s *spans) alloc(n int) (int, bool) {
	if n < 1 {
		return 0, false
	}
	from := 1
	for k, b := range s.blocks {
		if b[0]-from >= n {
			s.insert(k, from, n)
			return from, true
		}
		from = b[0] + b[1] // less than 0 behind the last word that an int can tell: there is no room then
	}
	if from < 0 || s.size-from+1 < n {
		return 0, false
	}
	s.insert(len(s.blocks), from, n)
	return from, true
}

func (s *spans) insert(k, at, n int) {
	s.blocks = append(s.blocks, [2]int{})
	copy(s.blocks[k+1:], s.blocks[k:])
	s.blocks[k] = [2]int{at, n}
}

func (s *spans) free(at int) bool {
	for k, b := range s.blocks {
		if b[0] == at {
			s.blocks = append(s.blocks[:k], s.blocks[k+1:]...)
			return true
		}
	}
	return false
}

func (s *spans) has(at int) bool {
	for _, b := range s.blocks {
		if at >= b[0] && at-b[0] < b[1] {
			return true
		}
	}
	return false
}

// edges are the first and the last word of each block, and those beside them.
func (s *spans) edges() []int {
	edges := []int{0, 1, s.size, math.MaxInt, math.MinInt}
	for _, b := range s.blocks {
		last := b[0] + (b[1] - 1)
		edges = append(edges, b[0]-1, b[0], b[0]+1, last-1, last, last+1)
	}
	return edges
}

// P35, P36: rows of calls to heaps of about as many words as an int can tell, with blocks of all sizes.
func TestGreatRows(t *testing.T) {
	r := rand.New(rand.NewSource(37))
	for range 150 {
		s := &spans{size: math.MaxInt - r.Intn(3)}
		h := New(s.size)
		for range 150 {
			if r.Intn(10) < 6 {
				n := r.Int()>>r.Intn(63) + 1 - r.Intn(2)
				at, ok := h.Alloc(n)
				if wantAt, want := s.alloc(n); at != wantAt || ok != want {
					t.Fatalf("Alloc(%d): %d %v, not %d %v, of %v", n, at, ok, wantAt, want, s)
				}
			} else {
				edges := s.edges()
				at := edges[r.Intn(len(edges))]
				if ok, want := h.Free(at), s.free(at); ok != want {
					t.Fatalf("Free(%d): %v, of %v", at, ok, s)
				}
			}
			for _, at := range s.edges() {
				if h.Has(at) != s.has(at) {
					t.Fatalf("Has(%d): %v, of %v", at, h.Has(at), s)
				}
			}
			if h.Count() != len(s.blocks) {
				t.Fatalf("Count: %d, of %v", h.Count(), s)
			}
		}
		for len(s.blocks) > 0 {
			at := s.blocks[r.Intn(len(s.blocks))][0]
			if !h.Free(at) || !s.free(at) {
				t.Fatalf("Free(%d): false", at)
			}
		}
		if at, ok := h.Alloc(s.size); at != 1 || !ok || h.Count() != 1 {
			t.Fatalf("the whole of %d: %d %v", s.size, at, ok)
		}
	}
}
