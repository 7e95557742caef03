package run

import (
	"slices"

	"holdfast/api"
)

// value is what stands at a spot. A value is never changed, another one comes in its place: so what is copied shares its parts, however many they are.
type value interface {
	whole() bool // neither it nor a part of it is a hole
	owns() bool  // something is to be done when it is dropped
}

// hole stands where there is no value.
type hole struct{}

// number is an int, or a bool: 0 or 1.
type number int

// many are the parts of a value. What hangs on all of them is found out when they are put together.
type many struct {
	parts         []value
	there, owning bool
}

type tuple struct {
	many
}

// data has the number of the function that is its Drop, or -1.
type data struct {
	many
	variant, drop int
}

// cell is a Cell, RefCell or Mutex, of which kind says which: its only part is its content. Out says who has it: nobody 0, so many Refs, or withMut; a Mutex is locked if it is not 0. Known is what is known at a Mutex.
type cell struct {
	many
	kind, out int
	known     known
}

// withMut says that a RefMut has a RefCell.
const withMut = -1

// refer is a reference.
type refer struct {
	spot
}

// owner is one of std's that lead to things of their own: LyBox to LyHandle.
type owner struct {
	kind  int
	leads *thing
}

type closure struct {
	fn    int
	leads *thing
}

// slice is a Slice or a SliceMut of the elements of a Vec's thing.
type slice struct {
	at          *thing
	from, count int
	by          *tag
}

// guard is a Ref, RefMut or Lock: its spot is the cell.
type guard struct {
	kind int
	spot
}

// rest is what is left to be done for data whose Drop has been called. It stands in no spot, but waits to be dropped.
type rest struct {
	of *thing
}

func (hole) whole() bool    { return false }
func (number) whole() bool  { return true }
func (m many) whole() bool  { return m.there }
func (refer) whole() bool   { return true }
func (owner) whole() bool   { return true }
func (closure) whole() bool { return true }
func (slice) whole() bool   { return true }
func (guard) whole() bool   { return true }
func (rest) whole() bool    { return true }

func (hole) owns() bool    { return false }
func (number) owns() bool  { return false }
func (m many) owns() bool  { return m.owning }
func (d data) owns() bool  { return d.drop >= 0 || d.owning }
func (refer) owns() bool   { return false }
func (owner) owns() bool   { return true }
func (closure) owns() bool { return true }
func (slice) owns() bool   { return false }
func (guard) owns() bool   { return true }
func (rest) owns() bool    { return true }

// together puts parts together.
func together(parts ...value) many {
	m := many{parts: parts, there: true}
	for _, part := range parts {
		m.there = m.there && part.whole()
		m.owning = m.owning || part.owns()
	}
	return m
}

// and is the parts and one more, which must not be put behind them twice: it may come to lie in the same memory.
func (m many) and(v value) many {
	return many{append(m.parts, v), m.there && v.whole(), m.owning || v.owns()}
}

func tupleOf(parts ...value) value {
	return tuple{together(parts...)}
}

func none() value {
	return data{many: together(), variant: 0, drop: -1}
}

func some(v value) value {
	return data{many: together(v), variant: 1, drop: -1}
}

func newCell(kind int, content value) value {
	return cell{many: together(content), kind: kind}
}

// partsOf are the parts of a value.
func partsOf(v value) []value {
	switch v := v.(type) {
	case tuple:
		return v.parts
	case data:
		return v.parts
	case cell:
		return v.parts
	}
	return nil
}

// withParts is the same value with other parts.
func withParts(v value, parts []value) value {
	switch v := v.(type) {
	case tuple:
		v.many = together(parts...)
		return v
	case data:
		v.many = together(parts...)
		return v
	case cell:
		v.many = together(parts...)
		return v
	}
	return v
}

// placed is a value with another one at a path.
func placed(v value, path []int, other value) value {
	if len(path) == 0 {
		return other
	}
	parts := slices.Clone(partsOf(v))
	parts[path[0]] = placed(parts[path[0]], path[1:], other)
	return withParts(v, parts)
}

// grown is a tuple with one part more. The old one is used no more.
func grown(v value, part value) value {
	return tuple{asked[tuple](v).and(part)}
}

// asked is a value of the kind that it must be.
func asked[T value](v value) T {
	if of, ok := v.(T); ok {
		return of
	}
	panic(ending{api.Wrong, api.WrongForm})
}
