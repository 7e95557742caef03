package sets

import (
	"slices"
	"testing"
)

// What waits already is not added again; what has been taken may be.
func TestQueue(t *testing.T) {
	q := newQueue[string]()
	q.add("a", "b", "a", "c", "b")
	var got []string
	for {
		thing, ok := q.take()
		if !ok {
			break
		}
		got = append(got, thing)
		if len(got) == 2 {
			q.add("c", "a", "b")
		}
	}
	if !slices.Equal(got, []string{"a", "b", "c", "a", "b"}) || len(q.waiting) != 0 {
		t.Error(got, q.waiting)
	}
}
