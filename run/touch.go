package run

import (
	"slices"

	"holdfast/api"
)

// The ways of touching.
const (
	plain  = iota
	inner  // what may be changed though it is shared
	atomic // what threads may touch at a time
)

// kinMark is a plain touch of a thing: by which tag, and when.
type kinMark struct {
	path  []int
	write bool
	by    *tag
	time  int
}

// raceMark is a touch that is not atomic: by which thread, and the count that it had.
type raceMark struct {
	path          []int
	write         bool
	thread, count int
}

// begins says whether a path begins with another one.
func begins(path, with []int) bool {
	return len(path) >= len(with) && slices.Equal(path[:len(with)], with)
}

// meet says whether two paths meet.
func meet(a, b []int) bool {
	return begins(a, b) || begins(b, a)
}

// touch touches a spot by its tag, to read or to write.
func (t *thread) touch(s spot, write bool, way int) {
	if s.at.gone {
		wrong(api.WrongDead)
	}
	if s.goesAgainst(write, way) {
		wrong(api.WrongKin)
	}
	if t.races(s, write) {
		wrong(api.WrongRace)
	}
	t.now++
	if way == plain {
		s.markKin(write, t.now)
	}
	if way != atomic {
		t.markRace(s, write)
	}
}

// goesAgainst says whether the line of the spot's tag forbids a touch: by itself, or because of what has been touched since.
func (s spot) goesAgainst(write bool, way int) bool {
	if s.by == nil {
		return false
	}
	if write && way == plain && s.by.fixed {
		return true
	}
	for _, m := range s.at.kin {
		if meet(m.path, s.path) && m.against(s.by) {
			return true
		}
	}
	return false
}

// against says whether a mark goes against a tag of the line of a tag. Both tags come from others that are ever older, so that these are gone down side by side, till they are the same.
func (m kinMark) against(t *tag) bool {
	guarded := false
	by := m.by
	for t != nil && t != by {
		if by != nil && by.time > t.time {
			by = by.from
			continue
		}
		if (t.mut || !guarded) && t.time < m.time && (m.write || t.mut) {
			return true
		}
		guarded = guarded || t.guard
		t = t.from
	}
	return false
}

// markKin makes a mark of kin. An older mark within its path may go, unless it alone is a write: the new one goes against all that the old one goes against, but for tags that the new one comes from. Of these the old one goes against none that is in the line, or the touch would be wrong; and those that a guard keeps out of the line lead to its cell, but never into it.
func (s spot) markKin(write bool, now int) {
	old := s.at.kin
	old = slices.DeleteFunc(old, func(m kinMark) bool {
		return (write || !m.write) && begins(m.path, s.path)
	})
	s.at.kin = append(old, kinMark{s.path, write, s.by, now})
}

// races says whether another thread has touched the spot, one of both to write, and this one has not seen it.
func (t *thread) races(s spot, write bool) bool {
	for _, m := range s.at.race {
		if (m.write || write) && !t.hasSeen(m) && meet(m.path, s.path) {
			return true
		}
	}
	return false
}

func (t *thread) hasSeen(m raceMark) bool {
	return m.count <= t.known[m.thread]
}

// markRace makes a mark of race. An older mark within its path may go, if this thread has seen it: who sees the new one has seen that one too.
func (t *thread) markRace(s spot, write bool) {
	old := s.at.race
	old = slices.DeleteFunc(old, func(m raceMark) bool {
		return (write || !m.write) && t.hasSeen(m) && begins(m.path, s.path)
	})
	s.at.race = append(old, raceMark{s.path, write, t.number, t.known[t.number]})
}

// known says of each thread up to which count of it something is known.
type known [api.MaxThreads]int

// meetAt lets a thread and what it meets at know what either of them knew.
func (t *thread) meetAt(k *known) {
	for n := range k {
		k[n] = max(k[n], t.known[n])
	}
	t.known = *k
	t.known[t.number]++
}
