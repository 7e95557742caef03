package run

import (
	"slices"

	"holdfast/api"
)

// thing is a local of a call, or a thing on the heap, or what is held while its Drop is called.
type thing struct {
	key   int // on the heap; others have 0
	gone  bool
	holds value
	kin   []kinMark
	race  []raceMark
	known known
	// Of an Rc, Arc: its owners; of a channel: its senders; of a handle: whether somebody has it.
	owners int
	// Of a channel: there is a receiver; of a handle: its thread has not left.
	open bool
}

// head is a path's step to the head of a value, which is beside all its parts.
const head = -1

// spot is a thing and a path, and the tag by which it is led to.
type spot struct {
	at   *thing
	path []int
	by   *tag
}

// part is the spot of a part of what stands at a spot.
func (s spot) part(n int) spot {
	return spot{s.at, slices.Concat(s.path, []int{n}), s.by}
}

func (s spot) head() spot {
	return s.part(head)
}

// look answers what stands at a spot, or what is wrong there.
func (s spot) look() (value, int) {
	if s.at.gone {
		return nil, api.WrongDead
	}
	v := s.at.holds
	for _, n := range s.path {
		parts := partsOf(v)
		if n < 0 || n >= len(parts) {
			return nil, api.WrongForm
		}
		v = parts[n]
	}
	return v, api.NotWrong
}

// stands answers what stands at a spot, which must be there.
func (s spot) stands() value {
	v, what := s.look()
	if what != api.NotWrong {
		wrong(what)
	}
	return v
}

// seen answers what stands at a spot, which must be no hole.
func (s spot) seen() value {
	v := s.stands()
	if _, isHole := v.(hole); isHole {
		wrong(api.WrongHole)
	}
	return v
}

// allThere answers what stands at a spot, all of which must be there.
func (s spot) allThere() value {
	v := s.stands()
	if !v.whole() {
		wrong(api.WrongHole)
	}
	return v
}

func (s spot) put(v value) {
	s.at.holds = placed(s.at.holds, s.path, v)
}

// whole is the spot of all that a thing holds, by no tag.
func whole(x *thing) spot {
	return spot{at: x}
}

// tag is made with each reference, slice and guard. Time is when it was made.
type tag struct {
	from       *tag
	mut, guard bool
	time       int
	// A tag of its line is shared, so that nothing may be written by it.
	fixed bool
}

// newTag makes a tag, from another one or from none.
func (w *world) newTag(from *tag, mut, guard bool) *tag {
	w.now++
	fixed := !mut || !guard && from != nil && from.fixed
	return &tag{from: from, mut: mut, guard: guard, time: w.now, fixed: fixed}
}

// newThing makes a thing that is on no heap.
func newThing(v value) *thing {
	return &thing{holds: v}
}

// onHeap makes a thing of the heap.
func (w *world) onHeap(v value) *thing {
	w.made++
	x := &thing{key: w.made, holds: v}
	w.heap[x.key] = x
	return x
}

// end ends a thing.
func (w *world) end(x *thing) {
	x.gone = true
	if x.key > 0 {
		delete(w.heap, x.key)
	}
}
