package emit

import (
	"strconv"

	"holdfast/api"
	"holdfast/shapes"
	"holdfast/ways"
)

// layout is where the locals of a function stand in its frame: what it gives first, then what it is given, then the others.
type layout struct {
	kinds []shapes.Type
	slots []int
	// Of a closure that is called once: where it is handed itself. What it has captured is no parameter of it, as only the closure knows how much that is.
	closure int
	given   int // behind what it is handed
	size    int
}

func (m *maker) layoutOf(f api.FnDef) layout {
	l := layout{slots: make([]int, len(f.Vars))}
	for n, v := range f.Vars {
		l.kinds = append(l.kinds, m.Of(v.Type))
		if n == 1 && f.Kind == api.FnOnce {
			l.closure = l.size
			l.size++
		} else {
			l.slots[n] = l.size
			l.size += m.weight(l.kinds[n])
		}
		if n == len(f.Sig.Ins) {
			l.given = l.size
		}
	}
	if f.Kind == api.FnOnce {
		l.slots[1] = l.size
		l.size += m.weight(l.kinds[1])
	}
	return l
}

// path is a local, or a part of one that is given or moved by itself, that may have to be dropped. Its flag is a slot that says whether it is there, if all that it stands in is there; those of the paths below it come behind it.
type path struct {
	kind  shapes.Type
	step  api.Step // from the path above it
	at    int      // its first slot
	flag  int
	flags int // how many there are, of it and of all below it
	below []*path
}

// find is the path that a step leads to from another one, or nil.
func (p *path) find(step api.Step) *path {
	for _, below := range p.below {
		if below.step == step {
			return below
		}
	}
	return nil
}

// pathsOf are the paths of a function's locals, nil of those for which nothing is to be done when they are dropped.
func (m *maker) pathsOf(f api.FnDef, l layout) []*path {
	roots := make([]*path, len(l.kinds))
	for n, kind := range l.kinds {
		if m.owns(kind) {
			roots[n] = &path{kind: kind, at: l.slots[n]}
		}
	}
	for _, i := range f.Code {
		if ways.Gives(i) {
			m.grow(roots, i.To)
		}
		for _, arg := range i.Args {
			if arg.Kind == api.OpMove {
				m.grow(roots, arg.Place)
			}
		}
	}
	return roots
}

// grow adds the paths along a place. What stands in a value with a Drop is there as long as that is.
func (m *maker) grow(roots []*path, place api.Place) {
	if !ways.IsDirect(place) {
		return
	}
	at := roots[place.Local]
	for _, step := range place.Steps {
		if at == nil || m.hasDrop(at.kind) {
			return
		}
		next := at.find(step)
		if to := m.stepped(at.kind, step); next == nil && m.owns(to.kind) {
			next = &path{kind: to.kind, step: step, at: at.at + to.at}
			at.below = append(at.below, next)
		}
		at = next
	}
}

// hasDrop says whether a type is a data type with a Drop.
func (m *maker) hasDrop(kind shapes.Type) bool {
	s, ok := m.Is(api.TyData, kind)
	return ok && m.Datas[s.N].Drop >= 0
}

// raise gives a path and those below it their flags, from a slot on, and answers the slot behind them.
func (p *path) raise(flag int) int {
	p.flag = flag
	next := flag + 1
	for _, below := range p.below {
		next = below.raise(next)
	}
	p.flags = next - flag
	return next
}

// shape is the same of paths whose values are dropped by the same code.
func (p *path) shape(text []byte) []byte {
	for _, n := range []int{int(p.kind), p.step.N, p.step.M} {
		text = strconv.AppendInt(append(text, ' '), int64(n), 10)
	}
	for _, below := range p.below {
		text = append(below.shape(append(text, '(')), ')')
	}
	return text
}

// tells says whether a part of a variant is a path by itself.
func (p *path) tells(variant int) bool {
	for _, below := range p.below {
		if below.step.N == variant {
			return true
		}
	}
	return false
}
