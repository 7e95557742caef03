// Package sets: sets of small numbers, and a queue by which they are settled, for layers that follow the ways of code.
package sets

import "math/bits"

// Set is a set of small numbers: a bit for each.
type Set []uint64

const wordBits = 64

// New is an empty set of numbers below a bound.
func New(bound int) Set {
	return make(Set, (bound+wordBits-1)/wordBits)
}

// Has says whether a number is in the set.
func (s Set) Has(n int) bool {
	return s[n/wordBits]>>(n%wordBits)&1 == 1
}

// Add adds a number.
func (s Set) Add(n int) {
	s[n/wordBits] |= 1 << (n % wordBits)
}

// Remove takes a number out.
func (s Set) Remove(n int) {
	s[n/wordBits] &^= 1 << (n % wordBits)
}

// Become makes a set the same as another one of the same bound.
func (s Set) Become(other Set) {
	copy(s, other)
}

// Join adds all that another set has, and says whether something is new.
func (s Set) Join(other Set) bool {
	grown := false
	for k, word := range other {
		grown = grown || word&^s[k] != 0
		s[k] |= word
	}
	return grown
}

// JoinWithin adds what another set has and a third one too, and says whether something is new.
func (s Set) JoinWithin(other, within Set) bool {
	grown := false
	for k, word := range other {
		word &= within[k]
		grown = grown || word&^s[k] != 0
		s[k] |= word
	}
	return grown
}

// Tell answers of each number below a bound whether the set has it.
func (s Set) Tell(bound int) []bool {
	out := make([]bool, bound)
	for n := range out {
		out[n] = s.Has(n)
	}
	return out
}

// Numbers answers the numbers below a bound that the set has, in rising order.
func (s Set) Numbers(bound int) []int {
	var out []int
	for k, word := range s {
		for ; word != 0; word &= word - 1 {
			n := k*wordBits + bits.TrailingZeros64(word)
			if n >= bound {
				return out
			}
			out = append(out, n)
		}
	}
	return out
}
