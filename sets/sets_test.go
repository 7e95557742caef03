package sets

import (
	"slices"
	"testing"
)

// of is a set of some numbers.
func of(bound int, numbers ...int) Set {
	s := New(bound)
	for _, n := range numbers {
		s.Add(n)
	}
	return s
}

// Numbers around those at which a set needs one more word.
func TestBounds(t *testing.T) {
	for _, bound := range []int{1, 63, 64, 65, 127, 128, 129, 300} {
		last := bound - 1
		s := of(bound, last)
		if !s.Has(last) || last > 0 && s.Has(0) || !slices.Equal(s.Numbers(bound), []int{last}) || len(s.Numbers(last)) != 0 {
			t.Error(bound, s)
		}
		told := s.Tell(bound)
		if len(told) != bound || !told[last] || slices.Contains(told[:last], true) {
			t.Error(bound, told)
		}
		s.Remove(last)
		if s.Has(last) || len(s.Numbers(bound)) != 0 {
			t.Error(bound, s)
		}
	}
	if s := New(0); len(s.Numbers(0)) != 0 || len(s.Tell(0)) != 0 || s.Join(New(0)) {
		t.Error(s)
	}
}

// What joins say, and what they add.
func TestJoins(t *testing.T) {
	s := of(130, 1, 64)
	if s.Join(of(130, 1)) || s.Join(New(130)) || !s.Join(of(130, 1, 129)) || !slices.Equal(s.Numbers(130), []int{1, 64, 129}) {
		t.Error(s.Numbers(130))
	}
	if s.JoinWithin(of(130, 2, 3), of(130, 4)) || s.JoinWithin(of(130, 1, 2), of(130, 1, 129)) || !s.JoinWithin(of(130, 2, 3, 128), of(130, 3, 128, 5)) || !slices.Equal(s.Numbers(130), []int{1, 3, 64, 128, 129}) {
		t.Error(s.Numbers(130))
	}
	other := New(130)
	other.Become(s)
	other.Remove(1)
	if !s.Has(1) || !slices.Equal(other.Numbers(130), []int{3, 64, 128, 129}) {
		t.Error(s.Numbers(130), other.Numbers(130))
	}
}

// Settle looks at each thing once, and again at those for which something has changed.
func TestSettle(t *testing.T) {
	var looked []int
	Settle([]int{1, 2, 3}, func(n int) []int {
		looked = append(looked, n)
		if n == 1 && len(looked) < 4 {
			return []int{1, 3}
		}
		return nil
	})
	if !slices.Equal(looked, []int{1, 2, 3, 1}) {
		t.Error(looked)
	}
}
