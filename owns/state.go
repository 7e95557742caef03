package owns

import "holdfast/sets"

// state is how the paths stand: which may be there, which may not. One may do both, by two ways that meet.
type state struct {
	init, hole sets.Set
}

func newState(paths int) state {
	return state{sets.New(paths), sets.New(paths)}
}

// isReached says whether something leads to where the paths stand so: each path is then there or not.
func (s state) isReached() bool {
	return s.init.Has(0) || s.hole.Has(0)
}

// become makes a state the same as another one.
func (s state) become(other state) {
	s.init.Become(other.init)
	s.hole.Become(other.hole)
}

// meet lets one more way lead to where the paths stand so, and says whether that is new.
func (s state) meet(other state) bool {
	init, hole := s.init.Join(other.init), s.hole.Join(other.hole)
	return init || hole
}

// gain says that paths are there.
func (s state) gain(paths []int) {
	for _, n := range paths {
		s.init.Add(n)
		s.hole.Remove(n)
	}
}

// lose says that paths are not there.
func (s state) lose(paths []int) {
	for _, n := range paths {
		s.hole.Add(n)
		s.init.Remove(n)
	}
}
