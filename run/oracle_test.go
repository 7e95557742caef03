package run

import (
	"fmt"
	"slices"

	"holdfast/api"
)

// The oracle runs programs slowly: its values are trees that are copied whole, its marks all stay, its lines are lists, its paths texts. Each sentence of the chapter is written down as it stands.

// val is a value of the oracle.
type val struct {
	kind    string // hole num tuple data cell ref clos slice guard, or std's own
	n       int    // the number, the variant, the function of a closure, which cell or guard
	drop    int
	parts   []val
	has     int // who has a cell: -1 says a RefMut
	clock   *clock
	spot    where
	from, k int
}

// clock says which counts of threads are known.
type clock [api.MaxThreads]int

// where is a spot of the oracle: its path is a text, each part in two letters.
type where struct {
	obj  *obj
	path string
	tag  *label
}

type obj struct {
	dead, heap bool
	val        val
	marks      []trace
	clock      clock
	owners     int
	senders    int
	receiver   bool
	waiting    []val
	had, left  bool
	what       *val
}

type label struct {
	from       *label
	mut, guard bool
	time       int
}

type trace struct {
	path          string
	write         bool
	way           string
	label         *label
	time          int
	thread, count int
}

type frame struct {
	dropping bool // a dropping, otherwise a call
	list     []any
	failed   bool
	fn, pc   int
	vars     map[int]*obj
	forDrop  bool
}

type strand struct {
	n      int
	stack  []*frame
	clock  clock
	handle *obj
	state  string // new, on, ended, left
	panic  bool
	abort  bool
	gave   *val
}

type oracle struct {
	p       api.Program
	all     []*strand
	heap    []*obj
	time    int
	out     api.Outcome
	picks   []int
	fine    bool
	current *strand
}

type stop struct{ how, what int }

func (o *oracle) bad(what int) { panic(stop{api.Wrong, what}) }

func at(n int) string { return fmt.Sprintf("%03d.", n) }

const top = "hhh."

func num(n int) val { return val{kind: "num", n: n} }

func group(parts ...val) val { return val{kind: "tuple", parts: parts} }

func optional(v ...val) val { return val{kind: "data", n: len(v), parts: v, drop: -1} }

func (v val) copied() val {
	out := v
	out.parts = nil
	for _, part := range v.parts {
		out.parts = append(out.parts, part.copied())
	}
	if v.clock != nil {
		c := *v.clock
		out.clock = &c
	}
	return out
}

func (v val) full() bool {
	return v.kind != "hole" && !slices.ContainsFunc(v.parts, func(p val) bool { return !p.full() })
}

func (v val) matters() bool {
	switch v.kind {
	case "hole", "num", "ref", "slice":
		return false
	case "tuple", "data", "cell":
		return v.kind == "data" && v.drop >= 0 || slices.ContainsFunc(v.parts, val.matters)
	}
	return true
}

func (o *oracle) tick() int { o.time++; return o.time }

func (o *oracle) label(from *label, mut, guard bool) *label {
	return &label{from, mut, guard, o.tick()}
}

func (o *oracle) onHeap(v val) *obj {
	x := &obj{heap: true, val: v}
	o.heap = append(o.heap, x)
	return x
}

// line is the line of a label.
func (l *label) line() []*label {
	var out []*label
	guarded := false
	for ; l != nil; l = l.from {
		if !guarded || l.mut {
			out = append(out, l)
		}
		guarded = guarded || l.guard
	}
	return out
}

func (l *label) comesFrom(other *label) bool {
	for ; l != nil; l = l.from {
		if l == other {
			return true
		}
	}
	return false
}

func crosses(a, b string) bool {
	n := min(len(a), len(b))
	return a[:n] == b[:n]
}

func (o *oracle) touch(w where, write bool, way string) {
	if w.obj.dead {
		o.bad(api.WrongDead)
	}
	for _, l := range w.tag.line() {
		if way == "plain" && write && !l.mut {
			o.bad(api.WrongKin)
		}
		for _, m := range w.obj.marks {
			if m.way == "plain" && m.time > l.time && crosses(m.path, w.path) && (m.write || l.mut) && !m.label.comesFrom(l) {
				o.bad(api.WrongKin)
			}
		}
	}
	for _, m := range w.obj.marks {
		if m.way != "atomic" && crosses(m.path, w.path) && (m.write || write) && o.current.clock[m.thread] < m.count {
			o.bad(api.WrongRace)
		}
	}
	w.obj.marks = append(w.obj.marks, trace{w.path, write, way, w.tag, o.tick(), o.current.n, o.current.clock[o.current.n]})
}

func (o *oracle) meets(c *clock) {
	me := o.current
	for n := range c {
		c[n] = max(c[n], me.clock[n])
		me.clock[n] = c[n]
	}
	me.clock[me.n]++
}

// look answers the value that stands at a spot, to be changed there, or what is wrong.
func (w where) look() (*val, int) {
	if w.obj.dead {
		return nil, api.WrongDead
	}
	v := &w.obj.val
	for path := w.path; path != ""; path = path[4:] {
		n := 0
		fmt.Sscanf(path, "%d.", &n)
		if n >= len(v.parts) {
			return nil, api.WrongForm
		}
		v = &v.parts[n]
	}
	return v, 0
}

func (o *oracle) sees(w where) *val {
	v, what := w.look()
	if what != 0 {
		o.bad(what)
	}
	return v
}

func (o *oracle) seesSome(w where) *val {
	v := o.sees(w)
	if v.kind == "hole" {
		o.bad(api.WrongHole)
	}
	return v
}

func (o *oracle) seesAll(w where) *val {
	v := o.sees(w)
	if !v.full() {
		o.bad(api.WrongHole)
	}
	return v
}

// follow goes along a place; quietly it touches nothing.
func (o *oracle) follow(f *frame, p api.Place, quiet bool) (where, int) {
	w := where{obj: f.vars[p.Local]}
	for _, s := range p.Steps {
		v, what := w.look()
		if what != 0 {
			return w, what
		}
		if v.kind == "hole" {
			return w, api.WrongHole
		}
		switch {
		case s.Kind == api.StepField && (v.kind == "tuple" || v.kind == "data") && s.N < len(v.parts):
			w.path += at(s.N)
		case s.Kind == api.StepCase && v.kind == "data" && v.n == s.N:
			w.path += at(s.M)
		case s.Kind == api.StepDeref && (v.kind == "ref" || v.kind == "box"):
			if !quiet {
				o.touch(w, false, "plain")
			}
			w = v.spot
		default:
			return w, api.WrongForm
		}
	}
	return w, 0
}

func (o *oracle) place(p api.Place) where {
	w, what := o.follow(o.frame(), p, false)
	if what != 0 {
		o.bad(what)
	}
	return w
}

func (o *oracle) frame() *frame { return o.current.stack[len(o.current.stack)-1] }

func (o *oracle) taken(w where) val {
	v := o.seesAll(w)
	o.touch(w, true, "plain")
	out := *v
	*v = val{kind: "hole"}
	return out
}

func (o *oracle) operand(a api.Oper) val {
	switch a.Kind {
	case api.OpMove:
		return o.taken(o.place(a.Place))
	case api.OpCopy:
		w := o.place(a.Place)
		v := o.seesAll(w)
		o.touch(w, false, "plain")
		return v.copied()
	}
	return num(a.N)
}

func (o *oracle) operands(in api.Instr) []val {
	var out []val
	for _, a := range in.Args {
		out = append(out, o.operand(a))
	}
	return out
}

func (o *oracle) give(p api.Place, v val) val {
	w := o.place(p)
	o.sees(w)
	o.touch(w, true, "plain")
	old := o.sees(w)
	was := *old
	*old = v
	return was
}

func (o *oracle) called(fn int, with ...val) *frame {
	f := &frame{fn: fn, vars: map[int]*obj{}}
	for n := range o.p.Fns[fn].Vars {
		f.vars[n] = &obj{val: val{kind: "hole"}}
	}
	for n, v := range with {
		f.vars[n+1].val = v
	}
	return f
}

func (s *strand) push(f *frame) { s.stack = append(s.stack, f) }

// run is what Run must answer.
func oracleRun(p api.Program, arg, fuel int, picks []int, fine bool) (out api.Outcome) {
	o := &oracle{p: p, picks: picks, fine: fine}
	o.all = []*strand{{state: "on"}}
	o.all[0].clock[0] = 1
	o.all[0].push(o.called(p.Main, num(arg)))
	defer func() {
		end, ok := recover().(stop)
		if !ok {
			panic("the oracle has failed")
		}
		o.out.How, o.out.What = end.how, end.what
		if end.how == api.Done || end.how == api.Failed {
			o.leftovers()
		}
		out = o.out
	}()
	fuel = max(0, min(fuel, api.MaxFuel))
	for {
		s, met := o.choose()
		if o.out.Steps == fuel {
			panic(stop{api.Going, 0})
		}
		o.out.Steps++
		if met {
			o.out.Order = append(o.out.Order, s.n)
		}
		o.current = s
		o.step()
	}
}

// choose answers whose turn it is, and whether the step is a meeting.
func (o *oracle) choose() (*strand, bool) {
	var quiet, ready []*strand
	all := true
	for _, s := range o.all {
		met, can, is := o.nextOf(s)
		switch {
		case !is:
			continue
		case !met:
			quiet = append(quiet, s)
		case can:
			ready = append(ready, s)
		}
		all = false
	}
	if !o.fine && len(quiet) > 0 {
		return quiet[0], false
	}
	among := append(slices.Clone(ready), quiet...)
	slices.SortFunc(among, func(a, b *strand) int { return a.n - b.n })
	if len(among) == 0 {
		if !all {
			panic(stop{api.Stuck, 0})
		}
		if o.all[0].gave == nil {
			panic(stop{api.Failed, 0})
		}
		panic(stop{api.Done, 0})
	}
	pick := 0
	if len(o.picks) > 0 {
		pick, o.picks = o.picks[0], o.picks[1:]
	}
	chosen := among[0]
	for _, s := range slices.Backward(among) {
		if s.n >= pick {
			chosen = s
		}
	}
	return chosen, slices.Contains(ready, chosen)
}

// nextOf says of a thread's next step whether it is a meeting, whether that can be done, and whether there is such a step.
func (o *oracle) nextOf(s *strand) (met, can, is bool) {
	if s.abort || s.state == "new" || s.state == "ended" {
		return true, true, true
	}
	if len(s.stack) == 0 {
		return false, false, false
	}
	f := s.stack[len(s.stack)-1]
	if f.dropping {
		v, ok := f.list[0].(val)
		return ok && (slices.Contains([]string{"arc", "sender", "receiver", "handle"}, v.kind) || v.kind == "guard" && v.n == api.LyLock), true, true
	}
	in := o.p.Fns[f.fn].Code[f.pc]
	if in.Op == api.ISpawn {
		return true, true, true
	}
	if in.Op != api.ILib || !slices.Contains([]int{api.LArcClone, api.LLock, api.LSend, api.LRecv, api.LSenderClone, api.LJoin, api.LOut}, in.N) {
		return false, true, true
	}
	return true, o.canDo(f, in), true
}

func (o *oracle) canDo(f *frame, in api.Instr) bool {
	if len(in.Args) == 0 || in.Args[0].Kind == api.OpInt {
		return true
	}
	w, what := o.follow(f, in.Args[0].Place, true)
	if what != 0 {
		return true
	}
	v, what := w.look()
	if what != 0 {
		return true
	}
	if in.N == api.LJoin {
		return v.kind != "handle" || v.spot.obj.left
	}
	if in.N != api.LLock && in.N != api.LRecv || v.kind != "ref" {
		return true
	}
	if v, what = v.spot.look(); what != 0 {
		return true
	}
	if in.N == api.LLock {
		return v.kind != "cell" || v.n != api.LyMutex || v.has == 0
	}
	return v.kind != "receiver" || len(v.spot.obj.waiting) > 0 || v.spot.obj.senders == 0
}

func (o *oracle) step() {
	s := o.current
	switch {
	case s.abort:
		panic(stop{api.Aborted, 0})
	case s.state == "new":
		s.state = "on"
	case s.state == "ended":
		o.leave(s)
	case o.frame().dropping:
		o.dropStep(o.frame())
	default:
		f := o.frame()
		o.instruction(f, o.p.Fns[f.fn].Code[f.pc])
	}
}

func (o *oracle) leave(s *strand) {
	s.state = "left"
	if s.n == 0 {
		if s.gave != nil {
			o.out.Value = s.gave.n
		}
		return
	}
	o.meets(&s.handle.clock)
	if s.handle.had {
		s.handle.left, s.handle.what = true, s.gave
		return
	}
	s.handle.dead = true
	if s.gave != nil && s.gave.matters() {
		s.push(&frame{dropping: true, list: []any{*s.gave}})
	}
}

func (o *oracle) fail() {
	s := o.current
	if s.panic {
		s.abort = true
		return
	}
	s.panic = true
	f := o.frame()
	f.pc = o.p.Fns[f.fn].Clean
}

// dropThen lets the call go on behind its instruction, by a dropping, if there is something to be done.
func (o *oracle) dropThen(v val) {
	if v.matters() {
		o.current.push(&frame{dropping: true, list: []any{v}})
		return
	}
	o.frame().pc++
}

// restOf is 'the rest of it'.
type restOf struct{ obj *obj }

func (f *frame) first(values ...val) {
	var list []any
	for _, v := range values {
		if v.matters() {
			list = append(list, v)
		}
	}
	f.list = append(list, f.list...)
}

func (o *oracle) ends(x *obj) val {
	o.touch(where{obj: x}, true, "plain")
	x.dead = true
	return x.val
}

func (o *oracle) dropStep(f *frame) {
	first := f.list[0]
	f.list = f.list[1:]
	switch v := first.(type) {
	case restOf:
		f.first(o.ends(v.obj).parts...)
	case val:
		if v.kind == "data" && v.drop >= 0 {
			x := &obj{val: v}
			f.list = append([]any{restOf{x}}, f.list...)
			c := o.called(v.drop, val{kind: "ref", spot: where{obj: x, tag: o.label(nil, true, false)}})
			c.forDrop = true
			o.current.push(c)
			return
		}
		o.dropVal(f, v)
	}
	if len(f.list) > 0 {
		return
	}
	s := o.current
	s.stack = s.stack[:len(s.stack)-1]
	if len(s.stack) > 0 {
		c := o.frame()
		c.pc++
		if f.failed {
			c.pc = o.p.Fns[c.fn].Clean
		}
	}
}

func (o *oracle) dropVal(f *frame, v val) {
	x := v.spot.obj
	switch v.kind {
	case "tuple", "data", "cell":
		f.first(v.parts...)
	case "box", "clos", "vec":
		f.first(o.ends(x))
	case "rc", "arc":
		if v.kind == "arc" {
			o.meets(&x.clock)
		} else {
			o.touch(where{obj: x, path: top}, true, "inner")
		}
		if x.owners--; x.owners == 0 {
			f.first(o.ends(x))
		}
	case "sender":
		o.meets(&x.clock)
		x.senders--
		x.dead = x.senders == 0 && !x.receiver
	case "receiver":
		o.meets(&x.clock)
		x.receiver = false
		f.first(x.waiting...)
		x.waiting = nil
		x.dead = x.senders == 0
	case "handle":
		o.meets(&x.clock)
		if !x.left {
			x.had = false
			return
		}
		x.dead = true
		if x.what != nil {
			f.first(*x.what)
		}
	case "guard":
		o.dropGuard(v)
	}
}

func (o *oracle) dropGuard(v val) {
	c := o.sees(v.spot)
	if c.kind != "cell" || c.n == api.LyCell {
		o.bad(api.WrongForm)
	}
	way := "inner"
	if c.n == api.LyMutex {
		way = "atomic"
	}
	w := v.spot
	w.path += top
	o.touch(w, true, way)
	switch v.n {
	case api.LyRef:
		c.has--
	case api.LyRefMut:
		c.has = 0
	case api.LyLock:
		o.meets(c.clock)
		c.has = 0
	}
}

// leftovers counts what is left.
func (o *oracle) leftovers() {
	var rest []*obj
	for _, x := range o.heap {
		if !x.dead {
			rest = append(rest, x)
		}
	}
	o.out.Left = len(rest)
	for {
		n := slices.IndexFunc(rest, func(x *obj) bool {
			return !slices.ContainsFunc(rest, func(y *obj) bool { return y.leadsTo(x) })
		})
		if n < 0 {
			break
		}
		rest = slices.Delete(rest, n, n+1)
	}
	o.out.Loose = o.out.Left - len(rest)
}

func (x *obj) leadsTo(y *obj) bool {
	all := append([]val{x.val}, x.waiting...)
	if x.what != nil {
		all = append(all, *x.what)
	}
	return slices.ContainsFunc(all, func(v val) bool { return v.leadsTo(y) })
}

func (v val) leadsTo(y *obj) bool {
	if v.kind != "ref" && v.kind != "slice" && v.kind != "guard" && v.spot.obj == y {
		return true
	}
	return slices.ContainsFunc(v.parts, func(p val) bool { return p.leadsTo(y) })
}
