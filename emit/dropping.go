package emit

import (
	"slices"

	"holdfast/api"
	"holdfast/shapes"
)

// dropping writes a routine that drops a value. Slot 0 is its address.
type dropping struct {
	hand
	flags   int // where the flags of a path stand
	broken  int // whether a panic has left something that was called
	a, b, c int
	asides  []aside
}

// aside is where a panic goes on that leaves something that was called, and where it comes back to: what is left to be dropped is dropped all the same.
type aside struct {
	from, back label
}

// dropping writes a routine.
func (m *maker) dropping(l label, value func(*dropping)) {
	d := &dropping{hand: hand{maker: m, word: 3, number: 4, top: 8}, flags: 1, broken: 2, a: 5, b: 6, c: 7}
	d.place(l)
	d.set(d.broken, 0)
	value(d)
	whole := d.newLabel()
	d.unless(d.broken, whole)
	d.resume()
	d.place(whole)
	d.ret()
	for _, at := range d.asides {
		d.place(at.from)
		d.set(d.broken, 1)
		d.jump(at.back)
	}
}

// aside says that a call comes next: a panic that leaves it goes on at the first label, and what is behind it at the second one.
func (d *dropping) aside() aside {
	at := aside{d.newLabel(), d.newLabel()}
	d.asides = append(d.asides, at)
	return at
}

// callAside calls what stands at a label, with the next frame.
func (d *dropping) callAside(l label) {
	at := d.aside()
	d.call(l, d.top, at.from)
	d.place(at.back)
}

// value drops a value of a type.
func (d *dropping) value(kind shapes.Type) {
	s := d.Shape(kind)
	switch s.Kind {
	case api.TyFn:
		d.closure()
	case api.TyLib:
		d.lib(kind, s)
	default:
		d.callDrop(kind)
		d.cases(kind)
	}
}

// cases drops the parts of a tuple or data.
func (d *dropping) cases(kind shapes.Type) {
	if !d.IsEnum(kind) {
		d.each(d.parts(kind, 0))
		return
	}
	done := d.newLabel()
	d.load(d.word, 0, 0)
	for n := range d.variants(kind) {
		if parts := d.parts(kind, n); d.anyDropped(parts) {
			d.inCase(n, done, func() { d.each(parts) })
		}
	}
	d.place(done)
}

// inCase writes what is done if slot word is a variant's number.
func (d *dropping) inCase(variant int, done label, does func()) {
	next := d.newLabel()
	d.set(d.number, variant)
	d.op(api.OEq, d.number, d.word, d.number)
	d.unless(d.number, next)
	does()
	d.jump(done)
	d.place(next)
}

// path drops what stands at a path that is there, but perhaps not all of it, in the value of another one.
func (d *dropping) path(p, of *path) {
	if !d.IsEnum(p.kind) {
		d.pathParts(p, of, 0)
		return
	}
	done := d.newLabel()
	d.load(d.word, 0, p.at-of.at)
	for n := range d.variants(p.kind) {
		if p.tells(n) {
			d.inCase(n, done, func() { d.pathParts(p, of, n) })
		}
	}
	d.behind(0, part{p.kind, p.at - of.at})
	d.place(done)
}

// pathParts drops the parts of a path, those that are paths so far as they are there.
func (d *dropping) pathParts(p, of *path, variant int) {
	for n, to := range d.parts(p.kind, variant) {
		step := api.Step{Kind: api.StepField, N: n}
		if d.IsEnum(p.kind) {
			step = api.Step{Kind: api.StepCase, N: variant, M: n}
		}
		below := p.find(step)
		if below == nil {
			d.behind(0, part{to.kind, p.at - of.at + to.at})
			continue
		}
		skip := d.newLabel()
		d.load(d.a, d.flags, below.flag-of.flag)
		d.unless(d.a, skip)
		if len(below.below) == 0 {
			d.behind(0, part{below.kind, below.at - of.at})
		} else {
			d.path(below, of)
		}
		d.place(skip)
	}
}

// callDrop calls the Drop of data that has one.
func (d *dropping) callDrop(kind shapes.Type) {
	s, isData := d.Is(api.TyData, kind)
	if !isData || !d.hasDrop(kind) {
		return
	}
	for _, drop := range d.program.Drops {
		if drop.Data == s.N && slices.Equal(d.OfAll(drop.Types), s.Args) {
			d.move(d.top+d.layouts[drop.Fn].slots[1], 0)
			d.callAside(d.entries[drop.Fn])
		}
	}
}

// each drops parts of what stands at the address in slot 0.
func (d *dropping) each(parts []part) {
	for _, to := range parts {
		d.behind(0, to)
	}
}

// behind drops a part of what stands at the address in a slot.
func (d *dropping) behind(address int, to part) {
	if d.dropped(to.kind) {
		d.plus(d.top, address, to.at)
		d.callAside(d.dropper(to.kind))
	}
}
