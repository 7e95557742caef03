package emit

import (
	"holdfast/api"
	"holdfast/shapes"
	"holdfast/ways"
)

// function writes the code of a function. Behind its locals its frame has the flags of its paths, those of a value that is being dropped, that value, and some slots for what is on its way.
type function struct {
	hand
	api.FnDef
	layout
	roots   []*path // of its locals
	at      []label // of its instructions
	fails   label   // where a panic begins
	cleans  label
	old     int // a value that another one has come in the place of
	oldFlag int
	to      int // addresses, for places of the instruction
	from    int
	a, b    int // for all sorts of things
	c, d    int
}

// function writes a function.
func (m *maker) function(n int) {
	f := &function{hand: hand{maker: m}, FnDef: m.program.Fns[n], layout: m.layouts[n]}
	f.roots = m.pathsOf(f.FnDef, f.layout)
	f.fails = f.newLabel()
	for range f.Code {
		f.at = append(f.at, f.newLabel())
	}
	f.cleans = f.at[f.Clean]
	f.frame()
	f.place(f.entries[n])
	f.begin()
	for n, in := range f.Code {
		f.place(f.at[n])
		f.instruction(&in)
	}
	f.place(f.fails)
	f.panics(f.cleans)
}

// frame says where all that a frame has beside the locals stands in it.
func (f *function) frame() {
	next := f.size
	for _, p := range f.roots {
		if p != nil {
			next = p.raise(next)
		}
	}
	f.oldFlag = next
	for _, p := range f.roots {
		if p != nil {
			next = max(next, f.oldFlag+p.flags)
		}
	}
	f.old = next
	for _, in := range f.Code {
		if in.Op == api.IPut {
			next = max(next, f.old+f.weight(f.kindAt(in.To)))
		}
	}
	for _, own := range []*int{&f.word, &f.number, &f.to, &f.from, &f.a, &f.b, &f.c, &f.d} {
		*own = next
		next++
	}
	f.top = next
}

// kindAt is the type of what stands at a place.
func (f *function) kindAt(p api.Place) shapes.Type {
	return f.Place(f.kinds, p)
}

// begin writes what a function does before its first instruction: its flags say which locals are there.
func (f *function) begin() {
	for n, p := range f.roots {
		if p != nil {
			isGiven := 0
			if n > 0 && n <= len(f.Sig.Ins) {
				isGiven = 1
			}
			f.setFlags(p, isGiven)
		}
	}
	if f.Kind == api.FnOnce {
		f.copy(slot(f.slots[1]), spot{f.closure, closureWords}, f.weight(f.kinds[1]))
		f.release(f.closure)
	}
}

// setFlags sets the flags of a path and of all below it.
func (f *function) setFlags(p *path, there int) {
	for n := range p.flags {
		f.set(p.flag+n, there)
	}
}

// pathAt is the path of a place, or nil if what stands there is looked after otherwise, or not at all.
func (f *function) pathAt(place api.Place) *path {
	if !ways.IsDirect(place) {
		return nil
	}
	at := f.roots[place.Local]
	for _, step := range place.Steps {
		if at == nil {
			return nil
		}
		at = at.find(step)
	}
	return at
}

// spotOf is the spot of a place. If it stands behind an address that stands nowhere in the frame, that comes into a slot.
func (f *function) spotOf(p api.Place, address int) spot {
	at, kind := slot(f.slots[p.Local]), f.kinds[p.Local]
	for _, step := range p.Steps {
		if !ways.IsDeref(step) {
			to := f.stepped(kind, step)
			at, kind = at.plus(to.at), to.kind
			continue
		}
		kind = f.Step(kind, step)
		if at.by == inFrame {
			at = spot{at.at, 0}
			continue
		}
		f.fetch(address, at)
		at = spot{address, 0}
	}
	return at
}

// gain says that what stands at a place is there.
func (f *function) gain(place api.Place) {
	if p := f.pathAt(place); p != nil {
		f.setFlags(p, 1)
	}
}

// lose says that what stood at a place of an operand is there no more, if it is moved.
func (f *function) lose(o api.Oper) {
	if o.Kind != api.OpMove {
		return
	}
	if p := f.pathAt(o.Place); p != nil {
		f.set(p.flag, 0)
	}
}

// take takes an operand to a spot.
func (f *function) take(o api.Oper, to spot) {
	if o.Kind == api.OpInt || o.Kind == api.OpBool {
		f.leaveNumber(to, o.N)
		return
	}
	f.copy(to, f.spotOf(o.Place, f.from), f.weight(f.kindAt(o.Place)))
	f.lose(o)
}

// taken takes an operand that is one word, and answers the slot that it stands in: its own one, if it has one.
func (f *function) taken(o api.Oper, otherwise int) int {
	if o.Kind == api.OpInt || o.Kind == api.OpBool {
		f.set(otherwise, o.N)
		return otherwise
	}
	f.lose(o)
	at := f.spotOf(o.Place, otherwise)
	if at.by == inFrame {
		return at.at
	}
	f.fetch(otherwise, at)
	return otherwise
}

// give gives a word at a place.
func (f *function) give(place api.Place, from int) {
	f.leave(f.spotOf(place, f.to), from)
	f.gain(place)
}

// takeAll takes operands to the parts of a value.
func (f *function) takeAll(all []api.Oper, to spot, parts []part) {
	for n, o := range all {
		f.take(o, to.plus(parts[n].at))
	}
}

// instruction writes an instruction.
func (f *function) instruction(in *api.Instr) {
	switch in.Op {
	case api.IUse:
		f.take(in.Args[0], f.spotOf(in.To, f.to))
		f.gain(in.To)
	case api.IBin, api.IUn:
		f.reckon(in)
	case api.IRef, api.IMut:
		f.address(f.a, f.spotOf(in.From, f.from))
		f.give(in.To, f.a)
	case api.ITag:
		f.fetch(f.a, f.spotOf(in.From, f.from))
		f.give(in.To, f.a)
	case api.ITuple, api.IMake:
		f.compose(in)
	case api.ILib:
		f.lib(in)
	case api.IPut:
		f.exchange(in)
	case api.IEnd:
		if p := f.roots[in.N]; p != nil {
			f.drop(p, p.at, p.flag)
		}
	default:
		f.turn(in)
	}
}

// turn writes an instruction by which it is gone on elsewhere.
func (f *function) turn(in *api.Instr) {
	switch in.Op {
	case api.ICall:
		f.callFn(in)
	case api.IInvoke:
		f.invoke(in)
	case api.IClos:
		f.close(in)
	case api.ISpawn:
		f.spawn(in)
	case api.IJump:
		f.jump(f.at[in.N])
	case api.IIf:
		f.unless(f.taken(in.Args[0], f.a), f.at[in.N])
	case api.IRet:
		f.ret()
	case api.IPanic:
		f.panics(f.cleans)
	case api.IResume:
		f.resume()
	default:
		panic(in.Op)
	}
}

func (f *function) reckon(in *api.Instr) {
	code := api.Ins{Op: api.MOp, A: f.c, B: f.taken(in.Args[0], f.a), D: in.N}
	if in.Op == api.IBin {
		code.C = f.taken(in.Args[1], f.b)
	}
	f.putAt(code, partE, f.fails)
	f.give(in.To, f.c)
}

// compose writes how a tuple or data is put together.
func (f *function) compose(in *api.Instr) {
	kind, to := f.kindAt(in.To), f.spotOf(in.To, f.to)
	if f.IsEnum(kind) {
		f.leaveNumber(to, in.M)
	}
	f.takeAll(in.Args, to, f.parts(kind, in.M))
	f.gain(in.To)
}
