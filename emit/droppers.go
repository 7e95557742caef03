package emit

import (
	"slices"

	"holdfast/api"
	"holdfast/shapes"
)

// droppers are routines that drop a value at the address in their slot 0: of types, of what closures have captured, and of paths that are there in part. They are written when it is known which ones are needed.
type droppers struct {
	ofKinds map[shapes.Type]label
	kinds   []shapes.Type // in the order in which they came up
	ofEnvs  map[int]label // by the function of the closure
	envs    []int
	ofPaths map[string]label // by their shapes
	paths   []*path
}

func newDroppers() droppers {
	return droppers{ofKinds: map[shapes.Type]label{}, ofEnvs: map[int]label{}, ofPaths: map[string]label{}}
}

// dropper is where what drops values of a type begins.
func (m *maker) dropper(kind shapes.Type) label {
	l, ok := m.ofKinds[kind]
	if !ok {
		l = m.newLabel()
		m.ofKinds[kind] = l
		m.kinds = append(m.kinds, kind)
	}
	return l
}

// envDropper is where what drops the captured values of a closure begins, or never, if nothing is to be done for them.
func (m *maker) envDropper(fn int) label {
	l, ok := m.ofEnvs[fn]
	if !ok && m.anyDropped(m.captured(fn, 0)) {
		l = m.newLabel()
		m.ofEnvs[fn] = l
		m.envs = append(m.envs, fn)
	}
	return l
}

// pathDropper is where what drops a path begins of which parts are given or moved by themselves. It is there itself; slot 1 is the address of its flags.
func (m *maker) pathDropper(p *path) label {
	shape := string(p.shape(nil))
	l, ok := m.ofPaths[shape]
	if !ok {
		l = m.newLabel()
		m.ofPaths[shape] = l
		m.paths = append(m.paths, p)
	}
	return l
}

func (t *types) anyDropped(parts []part) bool {
	return slices.ContainsFunc(parts, func(p part) bool { return t.dropped(p.kind) })
}

// dropAll writes the routines, those too that come up meanwhile.
func (m *maker) dropAll() {
	for _, fn := range m.envs {
		m.dropping(m.ofEnvs[fn], func(d *dropping) { d.each(m.captured(fn, 0)) })
	}
	for _, p := range m.paths {
		m.dropping(m.ofPaths[string(p.shape(nil))], func(d *dropping) { d.path(p, p) })
	}
	for n := 0; n < len(m.kinds); n++ {
		m.dropping(m.ofKinds[m.kinds[n]], func(d *dropping) { d.value(m.kinds[n]) })
	}
}

// dropping writes a routine that drops a value. Slot 0 is its address.
type dropping struct {
	hand
	flags   int // where the flags of a path stand
	broken  int // whether a panic has left something that was called
	a, b, c int
	asides  []aside
}

// aside is where a panic goes on that leaves something that was called, and where it comes back to: what is left to be dropped is dropped all the same.
type aside struct {
	from, back label
}

// dropping writes a routine.
func (m *maker) dropping(l label, value func(*dropping)) {
	d := &dropping{hand: hand{maker: m, word: 3, number: 4, top: 8}, flags: 1, broken: 2, a: 5, b: 6, c: 7}
	d.place(l)
	d.set(d.broken, 0)
	value(d)
	whole := d.newLabel()
	d.unless(d.broken, whole)
	d.resume()
	d.place(whole)
	d.ret()
	for _, at := range d.asides {
		d.place(at.from)
		d.set(d.broken, 1)
		d.jump(at.back)
	}
}

// aside says that a call comes next: a panic that leaves it goes on at the first label, and what is behind it at the second one.
func (d *dropping) aside() aside {
	at := aside{d.newLabel(), d.newLabel()}
	d.asides = append(d.asides, at)
	return at
}

// callAside calls what stands at a label, with the next frame.
func (d *dropping) callAside(l label) {
	at := d.aside()
	d.call(l, d.top, at.from)
	d.place(at.back)
}

// dropGiven drops what a thread has given, from a slot on, if nobody asks for it. A panic then is its end.
func (h *hand) dropGiven(kind shapes.Type, at int) {
	if h.dropped(kind) {
		over := h.newLabel()
		h.adr(h.top, at)
		h.call(h.dropper(kind), h.top, over)
		h.place(over)
	}
}

// value drops a value of a type.
func (d *dropping) value(kind shapes.Type) {
	s := d.Shape(kind)
	switch s.Kind {
	case api.TyFn:
		d.closure()
	case api.TyLib:
		d.lib(kind, s)
	default:
		d.callDrop(kind)
		d.cases(kind)
	}
}

// cases drops the parts of a tuple or data.
func (d *dropping) cases(kind shapes.Type) {
	if !d.IsEnum(kind) {
		d.each(d.parts(kind, 0))
		return
	}
	done := d.newLabel()
	d.load(d.word, 0, 0)
	for n := range d.variants(kind) {
		if parts := d.parts(kind, n); d.anyDropped(parts) {
			d.inCase(n, done, func() { d.each(parts) })
		}
	}
	d.place(done)
}

// variants is how many variants an enum has.
func (t *types) variants(kind shapes.Type) int {
	return len(t.Datas[t.Shape(kind).N].Cases)
}

// inCase writes what is done if slot word is a variant's number.
func (d *dropping) inCase(variant int, done label, does func()) {
	next := d.newLabel()
	d.set(d.number, variant)
	d.op(api.OEq, d.number, d.word, d.number)
	d.unless(d.number, next)
	does()
	d.jump(done)
	d.place(next)
}

// path drops what stands at a path that is there, but perhaps not all of it, in the value of another one.
func (d *dropping) path(p, of *path) {
	if !d.IsEnum(p.kind) {
		d.pathParts(p, of, 0)
		return
	}
	done := d.newLabel()
	d.load(d.word, 0, p.at-of.at)
	for n := range d.variants(p.kind) {
		if p.tells(n) {
			d.inCase(n, done, func() { d.pathParts(p, of, n) })
		}
	}
	d.behind(0, part{p.kind, p.at - of.at})
	d.place(done)
}

// pathParts drops the parts of a path, those that are paths so far as they are there.
func (d *dropping) pathParts(p, of *path, variant int) {
	for n, to := range d.parts(p.kind, variant) {
		step := api.Step{Kind: api.StepField, N: n}
		if d.IsEnum(p.kind) {
			step = api.Step{Kind: api.StepCase, N: variant, M: n}
		}
		below := p.find(step)
		if below == nil {
			d.behind(0, part{to.kind, p.at - of.at + to.at})
			continue
		}
		skip := d.newLabel()
		d.load(d.a, d.flags, below.flag-of.flag)
		d.unless(d.a, skip)
		if len(below.below) == 0 {
			d.behind(0, part{below.kind, below.at - of.at})
		} else {
			d.path(below, of)
		}
		d.place(skip)
	}
}

// callDrop calls the Drop of data that has one.
func (d *dropping) callDrop(kind shapes.Type) {
	s, isData := d.Is(api.TyData, kind)
	if !isData || !d.hasDrop(kind) {
		return
	}
	for _, drop := range d.program.Drops {
		if drop.Data == s.N && slices.Equal(d.OfAll(drop.Types), s.Args) {
			d.move(d.top+d.layouts[drop.Fn].slots[1], 0)
			d.callAside(d.entries[drop.Fn])
		}
	}
}

// each drops parts of what stands at the address in slot 0.
func (d *dropping) each(parts []part) {
	for _, to := range parts {
		d.behind(0, to)
	}
}

// behind drops a part of what stands at the address in a slot.
func (d *dropping) behind(address int, to part) {
	if d.dropped(to.kind) {
		d.plus(d.top, address, to.at)
		d.callAside(d.dropper(to.kind))
	}
}

func (d *dropping) closure() {
	none := d.newLabel()
	d.load(d.a, 0, 0)
	d.load(d.b, d.a, closureDrop)
	d.unless(d.b, none)
	d.plus(d.top, d.a, closureWords)
	at := d.aside()
	d.callAt(d.b, d.top, at.from)
	d.place(at.back)
	d.place(none)
	d.release(d.a)
}

func (d *dropping) lib(kind shapes.Type, s shapes.Shape) {
	content := s.Args[0]
	switch s.N {
	case api.LyBox:
		d.load(d.a, 0, 0)
		d.behind(d.a, part{content, 0})
		d.release(d.a)
	case api.LyVec:
		d.elements(content)
	case api.LyRc:
		d.share(content)
	case api.LyArc:
		d.sync()
		d.share(content)
	case api.LyCell, api.LyRefCell, api.LyMutex:
		d.each(d.parts(kind, 0))
	case api.LySender:
		d.sender()
	case api.LyReceiver:
		d.receiver(content)
	case api.LyHandle:
		d.handle(content)
	case api.LyRef:
		d.load(d.a, 0, 0)
		d.change(d.b, spot{d.a, cellState}, -1)
	case api.LyRefMut:
		d.load(d.a, 0, 0)
		d.leaveNumber(spot{d.a, cellState}, 0)
	case api.LyLock:
		d.sync()
		d.load(d.a, 0, 0)
		d.leaveNumber(spot{d.a, cellState}, 1)
	}
}

// elements drops those of a Vec, from the first one on.
func (d *dropping) elements(content shapes.Type) {
	again, done, none := d.newLabel(), d.newLabel(), d.newLabel()
	if d.dropped(content) {
		d.load(d.a, 0, vecWords)
		d.load(d.b, 0, vecCount)
		d.place(again)
		d.unless(d.b, done)
		d.behind(d.a, part{content, 0})
		d.plus(d.a, d.a, d.weight(content))
		d.plus(d.b, d.b, -1)
		d.jump(again)
		d.place(done)
	}
	d.load(d.a, 0, vecWords)
	d.unless(d.a, none)
	d.release(d.a)
	d.place(none)
}

// share drops an Rc or Arc.
func (d *dropping) share(content shapes.Type) {
	last, done := d.newLabel(), d.newLabel()
	d.load(d.a, 0, 0)
	d.change(d.b, spot{d.a, shareCount}, -1)
	d.unless(d.b, last)
	d.jump(done)
	d.place(last)
	d.behind(d.a, part{content, shareWords})
	d.release(d.a)
	d.place(done)
}

func (d *dropping) sender() {
	last, none, done := d.newLabel(), d.newLabel(), d.newLabel()
	d.sync()
	d.load(d.a, 0, 0)
	d.change(d.b, spot{d.a, chanSenders}, -1)
	d.unless(d.b, last)
	d.jump(done)
	d.place(last)
	d.change(d.b, spot{d.a, chanReady}, 1)
	d.load(d.b, d.a, chanOpen)
	d.unless(d.b, none)
	d.jump(done)
	d.place(none)
	d.release(d.a)
	d.place(done)
}

// receiver drops a Receiver. What waits is taken out of the channel first: that may end while it is dropped.
func (d *dropping) receiver(content shapes.Type) {
	alone, again, done := d.newLabel(), d.newLabel(), d.newLabel()
	d.sync()
	d.load(d.a, 0, 0)
	d.leaveNumber(spot{d.a, chanOpen}, 0)
	d.load(d.c, d.a, chanFirst)
	d.load(d.b, d.a, chanSenders)
	d.unless(d.b, alone)
	d.jump(again)
	d.place(alone)
	d.release(d.a)
	d.place(again)
	d.unless(d.c, done)
	d.behind(d.c, part{content, waitWords})
	d.move(d.a, d.c)
	d.load(d.c, d.c, waitNext)
	d.release(d.a)
	d.jump(again)
	d.place(done)
}

func (d *dropping) handle(content shapes.Type) {
	going, none, done := d.newLabel(), d.newLabel(), d.newLabel()
	d.sync()
	d.load(d.a, 0, 0)
	d.load(d.b, d.a, handleLeft)
	d.unless(d.b, going)
	d.load(d.b, d.a, handleGave)
	d.unless(d.b, none)
	d.behind(d.a, part{content, handleWords})
	d.place(none)
	d.release(d.a)
	d.jump(done)
	d.place(going)
	d.leaveNumber(spot{d.a, handleHeld}, 0)
	d.place(done)
}
