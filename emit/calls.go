package emit

import (
	"holdfast/api"
	"holdfast/shapes"
)

// A closure is the address of a block: where its function begins, where what drops its captured values begins (0 if nothing is to be done), then these.
const (
	closureFn = iota
	closureDrop
	closureWords
)

// handOver takes operands into the frame of a function that is to be called. What is needed meanwhile stands behind that.
func (f *function) handOver(args []api.Oper, slots []int, behind int) {
	top := f.top
	f.top += behind
	for n, arg := range args {
		f.take(arg, slot(top+slots[n]))
	}
	f.top = top
}

// giveBack gives what a function that has been called has given: it stands where its frame began.
func (f *function) giveBack(place api.Place) {
	top, words := f.top, f.weight(f.kindAt(place))
	f.top += words
	f.copy(f.spotOf(place, f.to), slot(top), words)
	f.top = top
	f.gain(place)
}

func (f *function) callFn(in *api.Instr) {
	l := f.layouts[in.N]
	f.handOver(in.Args, l.slots[1:], l.given)
	f.call(f.entries[in.N], f.top, f.cleans)
	f.giveBack(in.To)
}

// invoke writes the call of a closure. Its frame is told by the closure's type alone: what it gives, the closure, what it is given.
func (f *function) invoke(in *api.Instr) {
	kind := f.kindAt(in.Args[0].Place)
	if in.N != api.FnOnce {
		kind = f.Shape(kind).Args[0]
	}
	args := f.Shape(kind).Args
	gives := f.weight(args[len(args)-1])
	slots := []int{gives}
	behind := gives + 1
	for _, arg := range args[:len(args)-1] {
		slots = append(slots, behind)
		behind += f.weight(arg)
	}
	f.handOver(in.Args, slots, behind)
	closure := f.top + gives
	if in.N == api.FnOnce {
		f.load(f.a, closure, closureFn)
	} else {
		f.load(f.b, closure, 0)
		f.plus(closure, f.b, closureWords)
		f.load(f.a, f.b, closureFn)
	}
	f.callAt(f.a, f.top, f.cleans)
	f.giveBack(in.To)
}

// block makes a block, whose address comes into a slot. There are no blocks of no words.
func (f *function) block(to, words int) {
	f.set(f.number, max(words, 1))
	f.alloc(to, f.number)
}

// captured are the values that a closure, or a thread, has captured, as parts of its block.
func (m *maker) captured(fn, at int) []part {
	var kinds []shapes.Type
	for _, t := range m.program.Fns[fn].Env {
		kinds = append(kinds, m.Of(t))
	}
	return m.lined(kinds, at)
}

// words is how many words some parts, and what stands ahead of them, take.
func (m *maker) words(parts []part, ahead int) int {
	if len(parts) == 0 {
		return ahead
	}
	last := parts[len(parts)-1]
	return last.at + m.weight(last.kind)
}

// close writes how a closure is made.
func (f *function) close(in *api.Instr) {
	parts := f.captured(in.N, closureWords)
	f.block(f.a, f.words(parts, closureWords))
	f.setAt(f.number, f.entries[in.N])
	f.store(f.a, closureFn, f.number)
	if l := f.envDropper(in.N); l != never {
		f.setAt(f.number, l)
	} else {
		f.set(f.number, 0)
	}
	f.store(f.a, closureDrop, f.number)
	f.takeAll(in.Args, spot{f.a, 0}, parts)
	f.give(in.To, f.a)
}
