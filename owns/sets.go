package owns

// set is a set of small numbers, of paths or of locals: a bit for each.
type set []uint64

const wordBits = 64

// newSet is an empty set of numbers below a bound.
func newSet(bound int) set {
	return make(set, (bound+wordBits-1)/wordBits)
}

func (s set) has(n int) bool {
	return s[n/wordBits]>>(n%wordBits)&1 == 1
}

func (s set) add(n int) {
	s[n/wordBits] |= 1 << (n % wordBits)
}

func (s set) remove(n int) {
	s[n/wordBits] &^= 1 << (n % wordBits)
}

// join adds all that another set has, and says whether something is new.
func (s set) join(other set) bool {
	grown := false
	for k, word := range other {
		grown = grown || word&^s[k] != 0
		s[k] |= word
	}
	return grown
}

// tell answers of each number below a bound whether the set has it.
func (s set) tell(bound int) []bool {
	out := make([]bool, bound)
	for n := range out {
		out[n] = s.has(n)
	}
	return out
}

// state is how the paths stand: which may be there, which may not. One may do both, by two ways that meet.
type state struct {
	init, hole set
}

func newState(paths int) state {
	return state{newSet(paths), newSet(paths)}
}

// isReached says whether something leads to where the paths stand so: each path is then there or not.
func (s state) isReached() bool {
	return s.init.has(0) || s.hole.has(0)
}

// become makes a state the same as another one.
func (s state) become(other state) {
	copy(s.init, other.init)
	copy(s.hole, other.hole)
}

// meet lets one more way lead to where the paths stand so, and says whether that is new.
func (s state) meet(other state) bool {
	init, hole := s.init.join(other.init), s.hole.join(other.hole)
	return init || hole
}

// gain says that paths are there.
func (s state) gain(paths []int) {
	for _, n := range paths {
		s.init.add(n)
		s.hole.remove(n)
	}
}

// lose says that paths are not there.
func (s state) lose(paths []int) {
	for _, n := range paths {
		s.hole.add(n)
		s.init.remove(n)
	}
}
