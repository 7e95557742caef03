package heap

import (
	"math/bits"
	"testing"
)

// lookThrough looks whether what the tree knows of its blocks holds: they stand in their order, each gap is all that is between two of them, each top knows the widest one, and no side is much higher than the other.
func lookThrough(t *testing.T, h *Heap) {
	t.Helper()
	end := 0
	var look func(b *block) (height, widest int)
	look = func(b *block) (int, int) {
		if b == nil {
			return 0, 0
		}
		left, most := look(b.left)
		if b.at-b.gap != end || b.gap < 0 {
			t.Fatalf("a block at %d with a gap of %d, behind the end of another one at %d", b.at, b.gap, end)
		}
		end = b.at + b.size
		right, behind := look(b.right)
		most = max(most, b.gap, behind)
		height := 1 + max(left, right)
		if b.height != height || b.most != most {
			t.Fatalf("a block at %d: height %d, not %d, widest gap %d, not %d", b.at, b.height, height, b.most, most)
		}
		if left-right > 1 || right-left > 1 {
			t.Fatalf("a block at %d: heights %d and %d", b.at, left, right)
		}
		return height, most
	}
	look(h.root)
}

// With many blocks no call goes far: the tree stays low, whatever the order in which they come and go.
func TestManyBlocks(t *testing.T) {
	const size = 1 << 17
	h := New(size)
	for n := range size {
		if at, ok := h.Alloc(1); at != n+1 || !ok {
			t.Fatalf("block %d: %d %v", n, at, ok)
		}
	}
	lookThrough(t, h)
	if limit := 3 * bits.Len(size) / 2; h.root.height > limit {
		t.Errorf("height %d, more than %d", h.root.height, limit)
	}
	for at := 2; at <= size; at += 2 {
		if !h.Free(at) {
			t.Fatalf("Free(%d)", at)
		}
	}
	lookThrough(t, h)
	if _, ok := h.Alloc(2); ok || h.Count() != size/2 {
		t.Errorf("2 words where each second one is taken, %d blocks", h.Count())
	}
	for at := size - 1; at > 0; at -= 2 {
		if !h.Free(at) {
			t.Fatalf("Free(%d)", at)
		}
	}
	lookThrough(t, h)
	if at, ok := h.Alloc(size); at != 1 || !ok || h.root.height > 2 {
		t.Errorf("the whole: %d %v", at, ok)
	}
}
