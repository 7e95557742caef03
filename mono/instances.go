package mono

import (
	"strconv"

	"holdfast/api"
	"holdfast/shapes"
	"holdfast/traits"
)

// instance is a function of the given program, and the types in the place of its type parameters.
type instance struct {
	fn    int
	types []shapes.Type
}

// roll gives things with types their numbers, in the order in which they come up. They are found again by their texts.
type roll map[string]int

// number answers the number of a thing with types, and whether it has come up just now.
func (r roll) number(thing int, types []shapes.Type) (int, bool) {
	text := strconv.AppendInt(nil, int64(thing), 10)
	for _, t := range types {
		text = strconv.AppendInt(append(text, ' '), int64(t), 10)
	}
	if known, ok := r[string(text)]; ok {
		return known, false
	}
	next := len(r)
	r[string(text)] = next
	return next, true
}

// need answers the number of an instance. A new one is made when those ahead of it are.
func (m *maker) need(fn int, types []shapes.Type) int {
	n, isNew := m.numbers.number(fn, types)
	if isNew {
		if n == api.MaxInstances {
			m.refuse()
		}
		m.instances = append(m.instances, instance{fn, types})
	}
	return n
}

// needDrop sees to it that a value of a data type with these types can be dropped.
func (m *maker) needDrop(data int, types []shapes.Type) {
	drop := m.program.Datas[data].Drop
	if drop < 0 {
		return
	}
	if _, isNew := m.dropped.number(data, types); isNew {
		m.drops = append(m.drops, api.Dropper{Data: data, Types: m.TellAll(types), Fn: m.need(drop, types)})
	}
}

// needMethod answers the number of the instance of a method by which a type has a trait.
func (m *maker) needMethod(trait, method int, self shapes.Type) int {
	impl, types, ok := traits.Find(m.program, nil, trait, m.Tell(self))
	if !ok {
		m.refuse()
	}
	return m.need(m.program.Impls[impl].Fns[method], m.OfAll(types))
}
