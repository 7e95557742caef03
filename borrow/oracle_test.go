package borrow

import (
	"fmt"
	"reflect"
	"slices"
	"testing"

	"holdfast/api"
	"holdfast/lower"
	"holdfast/owns"
)

// tree is a type with regions, written out.
type tree struct {
	kind, n int
	own     []int
	args    []tree
}

// pair says that a region outlives another one.
type pair struct {
	long, short int
}

// mark is a lifetime or a type parameter of a data type.
type mark struct {
	data   int
	isType bool
	n      int
}

// oracle finds slowly what Lend and Check have to answer: types are trees, regions grow till nothing changes, each loan is followed by itself.
type oracle struct {
	p      api.Program
	f      api.FnDef
	flow   api.Flow
	fixed  map[mark]bool
	sets   []map[int]bool // of each region what it has: instructions, and -1, -2, .. for universal regions 0, 1, ..
	pairs  []pair
	locals []tree
	loans  []api.Loan
	lent   []int // the regions of the loans
}

func newOracle(p api.Program, n int) *oracle {
	o := &oracle{p: p, f: p.Fns[n], flow: owns.Flow(p, n)}
	o.findFixed()
	for u := range o.universals() {
		o.newRegion()
		o.sets[u][-1-u] = true
		for k := range o.f.Code {
			o.sets[u][k] = true
		}
	}
	for _, v := range o.f.Vars {
		o.locals = append(o.locals, o.fresh(v.Type))
	}
	for k, v := range o.locals {
		o.pairs = append(o.pairs, o.asks(v)...)
		if k <= len(o.f.Sig.Ins) {
			told := o.own(o.f.Sig.Out)
			if k > 0 {
				told = o.own(o.f.Sig.Ins[k-1])
			}
			o.isOf(v, told, true)
		}
	}
	o.last()
	for k := range o.f.Code {
		if o.reached(k) {
			o.say(k)
		}
	}
	for grown := true; grown; {
		grown = false
		for _, pair := range o.pairs {
			for element := range o.sets[pair.short] {
				if !o.sets[pair.long][element] {
					o.sets[pair.long][element], grown = true, true
				}
			}
		}
	}
	return o
}

func (o *oracle) universals() int {
	return 1 + o.f.Sig.Lives + len(o.f.Sig.Gens)
}

func (o *oracle) newRegion() int {
	o.sets = append(o.sets, map[int]bool{})
	return len(o.sets) - 1
}

func (o *oracle) reached(n int) bool {
	return o.flow.Init[n][0] || o.flow.Hole[n][0]
}

// findFixed follows which lifetime or type parameter of a data type makes which others fixed.
func (o *oracle) findFixed() {
	o.fixed = map[mark]bool{}
	makes := map[mark][]mark{}
	var todo []mark
	var visit func(data int, t api.Type, hard bool, by []mark)
	visit = func(data int, t api.Type, hard bool, by []mark) {
		stands := func(m mark, more ...mark) {
			if hard {
				todo = append(todo, m)
			}
			for _, one := range slices.Concat(by, more) {
				makes[one] = append(makes[one], m)
			}
		}
		if t.Kind == api.TyParam {
			stands(mark{data, true, t.N})
		}
		for k, life := range t.Lives {
			if life < 1 {
				continue
			}
			if t.Kind == api.TyData {
				stands(mark{data, false, life - 1}, mark{t.N, false, k})
			} else {
				stands(mark{data, false, life - 1})
			}
		}
		for k, arg := range t.Args {
			within := by
			if t.Kind == api.TyData {
				within = append(slices.Clone(by), mark{t.N, true, k})
			}
			visit(data, arg, hard || isHard(t), within)
		}
	}
	for n, d := range o.p.Datas {
		for _, c := range d.Cases {
			for _, part := range c.Parts {
				visit(n, part.Type, false, nil)
			}
		}
	}
	for len(todo) > 0 {
		m := todo[0]
		todo = todo[1:]
		if !o.fixed[m] {
			o.fixed[m] = true
			todo = append(todo, makes[m]...)
		}
	}
}

// isHard says whether what stands in the Args of a type is fixed, whatever the data types are.
func isHard(t api.Type) bool {
	libs := []int{api.LyCell, api.LyRefCell, api.LyMutex, api.LySender, api.LyReceiver, api.LySliceMut, api.LyRefMut, api.LyLock}
	return t.Kind == api.TyMut || t.Kind == api.TyFn || t.Kind == api.TyLib && slices.Contains(libs, t.N)
}

// bare is a type without regions.
func bare(t tree) api.Type {
	out := api.Type{Kind: t.kind, N: t.n}
	for range t.own {
		out.Lives = append(out.Lives, 0)
	}
	for _, arg := range t.args {
		out.Args = append(out.Args, bare(arg))
	}
	return out
}

// fresh is a type with new regions.
func (o *oracle) fresh(t api.Type) tree {
	out := tree{kind: t.Kind, n: t.N}
	many := 0
	switch {
	case t.Kind == api.TyRef, t.Kind == api.TyMut, t.Kind == api.TyFn, t.Kind == api.TyLib && t.N >= api.LySlice:
		many = 1
	case t.Kind == api.TyData:
		many = o.p.Datas[t.N].Lives
	}
	for range many {
		out.own = append(out.own, o.newRegion())
	}
	for _, arg := range t.Args {
		out.args = append(out.args, o.fresh(arg))
	}
	return out
}

// put is a told type with regions for lifetimes (region 0 is the static one), and types for type parameters.
func put(t api.Type, lives []int, types []tree) tree {
	if t.Kind == api.TyParam {
		return types[t.N]
	}
	out := tree{kind: t.Kind, n: t.N}
	for _, life := range t.Lives {
		out.own = append(out.own, lifeOf(life, lives))
	}
	for _, arg := range t.Args {
		out.args = append(out.args, put(arg, lives, types))
	}
	return out
}

func lifeOf(life int, lives []int) int {
	if life < 0 {
		return 0
	}
	return lives[life-1]
}

// own is a type of the function's own signature.
func (o *oracle) own(t api.Type) tree {
	lives, types := o.ownLives(), []tree{}
	for n := range o.f.Sig.Gens {
		types = append(types, tree{kind: api.TyParam, n: n})
	}
	return put(t, lives, types)
}

func (o *oracle) ownLives() []int {
	var lives []int
	for n := range o.f.Sig.Lives {
		lives = append(lives, 1+n)
	}
	return lives
}

// regionsOf are the regions of a type.
func regionsOf(t tree) []int {
	out := slices.Clone(t.own)
	for _, arg := range t.args {
		out = append(out, regionsOf(arg)...)
	}
	return out
}

// allOf are those and the universal regions of the type parameters in it.
func (o *oracle) allOf(t tree) []int {
	out := slices.Clone(t.own)
	if t.kind == api.TyParam {
		out = append(out, 1+o.f.Sig.Lives+t.n)
	}
	for _, arg := range t.args {
		out = append(out, o.allOf(arg)...)
	}
	return out
}

// asks are what a type asks for.
func (o *oracle) asks(t tree) []pair {
	var out []pair
	if t.kind == api.TyRef || t.kind == api.TyMut || t.kind == api.TyLib && t.n >= api.LySlice {
		for _, long := range o.allOf(t.args[0]) {
			out = append(out, pair{long, t.own[0]})
		}
	}
	for _, arg := range t.args {
		out = append(out, o.asks(arg)...)
	}
	return out
}

// isOf says that a type is of another one, or, if all of it is fixed, that they have the same regions.
func (o *oracle) isOf(one, other tree, fixed bool) {
	for k := range one.own {
		o.pairs = append(o.pairs, pair{one.own[k], other.own[k]})
		if fixed || one.kind == api.TyData && o.fixed[mark{one.n, false, k}] {
			o.pairs = append(o.pairs, pair{other.own[k], one.own[k]})
		}
	}
	for k := range one.args {
		within := fixed || isHard(bare(one)) || one.kind == api.TyData && o.fixed[mark{one.n, true, k}]
		o.isOf(one.args[k], other.args[k], within)
	}
}

// last lets regions last where locals are used or dropped later.
func (o *oracle) last() {
	for n, v := range o.locals {
		for k := range o.f.Code {
			if !o.reached(k) {
				continue
			}
			if o.flow.Live[k][n] {
				for _, region := range regionsOf(v) {
					o.sets[region][k] = true
				}
			}
			if o.flow.Drop[k][n] && o.someThere(k, api.Place{Local: n}) {
				for _, region := range o.drops(v) {
					o.sets[region][k] = true
				}
			}
		}
	}
}

func (o *oracle) someThere(k int, p api.Place) bool {
	for n, path := range o.flow.Paths {
		if o.flow.Init[k][n] && begins(path, p) {
			return true
		}
	}
	return false
}

func begins(p, with api.Place) bool {
	return p.Local == with.Local && len(p.Steps) >= len(with.Steps) && slices.Equal(p.Steps[:len(with.Steps)], with.Steps)
}

// partsOf are the types of all parts of a data type.
func (o *oracle) partsOf(t tree) []tree {
	var out []tree
	for _, c := range o.p.Datas[t.n].Cases {
		for _, part := range c.Parts {
			out = append(out, put(part.Type, t.own, t.args))
		}
	}
	return out
}

func size(t tree) int {
	out := 1
	for _, arg := range t.args {
		out += size(arg)
	}
	return out
}

// drops are the drop regions of a type.
func (o *oracle) drops(t tree) []int {
	seen := map[string]bool{}
	var out []int
	var visit func(t tree)
	visit = func(t tree) {
		if name := fmt.Sprint(t); seen[name] || len(seen) > api.MaxAsk {
			return
		} else {
			seen[name] = true
		}
		whole := t.kind == api.TyFn || t.kind == api.TyLib && t.n >= api.LyRef || t.kind == api.TyData && o.p.Datas[t.n].Drop >= 0
		switch {
		case whole || size(t) > api.MaxParts:
			out = append(out, regionsOf(t)...)
		case t.kind == api.TyTuple, t.kind == api.TyLib && t.n < api.LySlice:
			for _, arg := range t.args {
				visit(arg)
			}
		case t.kind == api.TyData:
			for _, part := range o.partsOf(t) {
				visit(part)
			}
		}
	}
	visit(t)
	if len(seen) > api.MaxAsk {
		return regionsOf(t)
	}
	return out
}

// through are the types that a place leads through.
func (o *oracle) through(p api.Place) []tree {
	out := []tree{o.locals[p.Local]}
	for _, s := range p.Steps {
		t := out[len(out)-1]
		switch {
		case s.Kind == api.StepDeref:
			t = t.args[0]
		case t.kind == api.TyTuple:
			t = t.args[s.N]
		case s.Kind == api.StepCase:
			t = put(o.p.Datas[t.n].Cases[s.N].Parts[s.M].Type, t.own, t.args)
		default:
			t = put(o.p.Datas[t.n].Cases[0].Parts[s.N].Type, t.own, t.args)
		}
		out = append(out, t)
	}
	return out
}

func (o *oracle) typeAt(p api.Place) tree {
	through := o.through(p)
	return through[len(through)-1]
}

func (o *oracle) passes(a api.Oper, to tree) {
	if a.Kind <= api.OpMove {
		o.isOf(o.typeAt(a.Place), to, false)
	}
}

// sigOf is the signature of what is called or made.
func (o *oracle) sigOf(i api.Instr) api.Sig {
	switch i.Op {
	case api.ICall:
		return o.p.Fns[i.N].Sig
	case api.ILib:
		return api.StdSig(i.N)
	case api.IMethod:
		return o.p.Traits[i.N].Methods[i.M].Sig
	}
	d := o.p.Datas[i.N]
	sig := api.Sig{Lives: d.Lives, Gens: make([]api.Gen, d.Gens), Out: api.Type{Kind: api.TyData, N: i.N}}
	for n := range d.Lives {
		sig.Out.Lives = append(sig.Out.Lives, n+1)
	}
	for n := range d.Gens {
		sig.Out.Args = append(sig.Out.Args, api.Type{Kind: api.TyParam, N: n})
	}
	for _, part := range d.Cases[i.M].Parts {
		sig.Ins = append(sig.Ins, part.Type)
	}
	return sig
}

// say lets an instruction say what it does of regions.
func (o *oracle) say(n int) {
	i := o.f.Code[n]
	var to tree
	if i.Op <= api.IPut {
		to = o.typeAt(i.To)
	}
	switch i.Op {
	case api.IUse, api.IPut:
		o.passes(i.Args[0], to)
	case api.ITuple:
		for k, a := range i.Args {
			o.passes(a, to.args[k])
		}
	case api.IMake, api.ICall, api.ILib, api.IMethod:
		o.sayCall(i, to)
	case api.IClos, api.ISpawn:
		for _, a := range i.Args {
			if a.Kind > api.OpMove {
				continue
			}
			for _, long := range o.allOf(o.typeAt(a.Place)) {
				if i.Op == api.ISpawn {
					o.pairs = append(o.pairs, pair{long, 0})
				} else {
					o.pairs = append(o.pairs, pair{long, to.own[0]})
				}
			}
		}
	case api.IInvoke:
		fn := o.typeAt(i.Args[0].Place)
		if fn.kind != api.TyFn {
			fn = fn.args[0]
		}
		for k, a := range i.Args[1:] {
			o.passes(a, fn.args[k])
		}
		o.isOf(fn.args[len(fn.args)-1], to, false)
	case api.IRef, api.IMut:
		o.sayLoan(n, i, to)
	}
}

func (o *oracle) sayCall(i api.Instr, to tree) {
	sig := o.sigOf(i)
	var lives []int
	for range sig.Lives {
		lives = append(lives, o.newRegion())
	}
	var types []tree
	for _, t := range i.Types {
		types = append(types, o.fresh(t))
	}
	for k, in := range sig.Ins {
		want := put(in, lives, types)
		o.passes(i.Args[k], want)
		o.pairs = append(o.pairs, o.asks(want)...)
	}
	out := put(sig.Out, lives, types)
	o.pairs = append(o.pairs, o.asks(out)...)
	o.isOf(out, to, false)
	for _, one := range sig.Outs {
		o.pairs = append(o.pairs, pair{lifeOf(one.Long, lives), lifeOf(one.Short, lives)})
	}
	for n, gen := range sig.Gens {
		for _, life := range gen.Lives {
			for _, long := range o.allOf(types[n]) {
				o.pairs = append(o.pairs, pair{long, lifeOf(life, lives)})
			}
		}
	}
}

func (o *oracle) sayLoan(n int, i api.Instr, to tree) {
	through := o.through(i.From)
	from := through[len(through)-1]
	o.isOf(from, to.args[0], i.Op == api.IMut)
	if i.Op == api.IMut {
		o.isOf(to.args[0], from, true)
	}
	region := o.newRegion()
	o.pairs = append(o.pairs, pair{region, to.own[0]})
	shared := false
	for k := len(i.From.Steps) - 1; k >= 0 && !shared; k-- {
		t := through[k]
		if i.From.Steps[k].Kind == api.StepDeref && (t.kind == api.TyRef || t.kind == api.TyMut) {
			o.pairs = append(o.pairs, pair{t.own[0], region})
			shared = t.kind == api.TyRef
		}
	}
	if !shared {
		o.loans = append(o.loans, api.Loan{At: n, Place: i.From, Mut: i.Op == api.IMut})
		o.lent = append(o.lent, region)
	}
}

func (o *oracle) owns(p api.Place) bool {
	return lower.Owns(o.p, o.f.Sig.Gens, bare(o.typeAt(p)))
}

func (o *oracle) panics(n int) bool {
	i := o.f.Code[n]
	if n >= o.f.Clean {
		return false
	}
	switch {
	case i.Op == api.IPut:
		return o.owns(i.To)
	case i.Op == api.IEnd:
		return o.owns(api.Place{Local: i.N})
	case i.Op == api.ILib:
		return slices.Contains([]string{"at", "at_mut", "view", "sat", "cut", "view_mut", "mat", "cut_mut", "borrow", "borrow_mut"}, api.StdFn(i.N))
	case i.Op == api.IBin:
		return i.N < api.OEq
	}
	return i.Op == api.ICall || i.Op == api.IMethod || i.Op == api.IInvoke || i.Op == api.IPanic || i.Op == api.IUn && i.N == api.ONeg
}

func (o *oracle) next(n int) []int {
	i := o.f.Code[n]
	switch {
	case i.Op == api.IJump:
		return []int{i.N}
	case i.Op == api.IIf:
		return []int{i.N, n + 1}
	case i.Op == api.IRet, i.Op == api.IPanic, i.Op == api.IResume:
		return nil
	}
	return []int{n + 1}
}

// follow are the instructions ahead of which a loan is out.
func (o *oracle) follow(k int) map[int]bool {
	loan, lasts := o.loans[k], o.sets[o.lent[k]]
	seen := map[int]bool{}
	var visit func(n int)
	visit = func(n int) {
		if seen[n] || !lasts[n] {
			return
		}
		seen[n] = true
		i := o.f.Code[n]
		ended := i.Op == api.IEnd && loan.Place.Local == i.N
		given := i.Op <= api.IPut && begins(loan.Place, i.To)
		if o.panics(n) && !ended && !(given && i.Op == api.IPut) {
			visit(o.f.Clean)
		}
		if !ended && !given {
			for _, next := range o.next(n) {
				visit(next)
			}
		}
	}
	for _, next := range o.next(loan.At) {
		visit(next)
	}
	return seen
}

func (o *oracle) lend() api.Lend {
	lend := api.Lend{Loans: o.loans, Out: make([][]int, len(o.f.Code))}
	for _, v := range o.locals {
		var spans [][]int
		for _, region := range regionsOf(v) {
			var span []int
			for n := range o.f.Code {
				if o.sets[region][n] {
					span = append(span, n)
				}
			}
			spans = append(spans, span)
		}
		lend.Spans = append(lend.Spans, spans)
	}
	for k := range o.loans {
		seen := o.follow(k)
		for n := range o.f.Code {
			if seen[n] {
				lend.Out[n] = append(lend.Out[n], k)
			}
		}
	}
	return lend
}

// touched is a place that an instruction touches: how is "shallow", "dropping" or "deep".
type touched struct {
	p     api.Place
	write bool
	how   string
}

func (o *oracle) touched(n int) []touched {
	i := o.f.Code[n]
	var out []touched
	for _, a := range i.Args {
		if a.Kind <= api.OpMove {
			out = append(out, touched{a.Place, a.Kind == api.OpMove, "deep"})
		}
	}
	end := api.Place{Local: i.N}
	switch {
	case i.Op == api.IRef, i.Op == api.IMut:
		out = append(out, touched{i.From, i.Op == api.IMut, "deep"})
	case i.Op == api.ITag:
		out = append(out, touched{i.From, false, "shallow"})
	case i.Op == api.IPut && o.owns(i.To):
		if slices.ContainsFunc(i.To.Steps, func(s api.Step) bool { return s.Kind == api.StepDeref }) || o.someThere(n, i.To) {
			out = append(out, touched{i.To, true, "dropping"})
		}
	case i.Op == api.IEnd:
		if o.someThere(n, end) && o.owns(end) {
			out = append(out, touched{end, true, "dropping"})
		}
		out = append(out, touched{end, true, "shallow"})
	case i.Op == api.IRet:
		out = append(out, touched{api.Place{}, true, "deep"})
	}
	if i.Op <= api.IPut {
		out = append(out, touched{i.To, true, "shallow"})
	}
	return out
}

func (o *oracle) clash(t touched, loan api.Loan) bool {
	if !loan.Mut && !t.write || !begins(loan.Place, t.p) && !begins(t.p, loan.Place) {
		return false
	}
	through := o.through(loan.Place)
	for k := len(t.p.Steps); k < len(loan.Place.Steps); k++ {
		at, deref := through[k], loan.Place.Steps[k].Kind == api.StepDeref
		if t.how == "dropping" && at.kind == api.TyData && o.p.Datas[at.n].Drop >= 0 {
			return true
		}
		if deref && (t.how == "shallow" || t.how == "dropping" && (at.kind == api.TyRef || at.kind == api.TyMut)) {
			return false
		}
	}
	return true
}

// said are the pairs of universal regions of which the signature says that the one outlives the other.
func (o *oracle) said() map[pair]bool {
	lives, sig := o.ownLives(), o.f.Sig
	said := map[pair]bool{}
	for u := range o.universals() {
		said[pair{u, u}], said[pair{0, u}] = true, true
	}
	for _, one := range sig.Outs {
		said[pair{lifeOf(one.Long, lives), lifeOf(one.Short, lives)}] = true
	}
	for n, gen := range sig.Gens {
		for _, life := range gen.Lives {
			said[pair{1 + sig.Lives + n, lifeOf(life, lives)}] = true
		}
	}
	for _, t := range append(slices.Clone(sig.Ins), sig.Out) {
		for _, one := range o.asks(o.own(t)) {
			said[one] = true
		}
	}
	for b := range o.universals() {
		for a := range o.universals() {
			for c := range o.universals() {
				if said[pair{a, b}] && said[pair{b, c}] {
					said[pair{a, c}] = true
				}
			}
		}
	}
	return said
}

func (o *oracle) fault(lend api.Lend) api.Fault {
	for n, i := range o.f.Code {
		for _, t := range o.touched(n) {
			for _, k := range lend.Out[n] {
				if o.clash(t, o.loans[k]) {
					return api.Fault{Kind: api.ErrLoan, At: i.At}
				}
			}
		}
	}
	said := o.said()
	for a := range o.universals() {
		for b := range o.universals() {
			if o.sets[a][-1-b] && !said[pair{a, b}] {
				return api.Fault{Kind: api.ErrLives, At: o.f.At}
			}
		}
	}
	return api.Fault{}
}

// plain is what a function lends, with lists that have nothing in them as nil.
func plain(lend api.Lend) api.Lend {
	var out api.Lend
	for _, spans := range lend.Spans {
		var copied [][]int
		for _, span := range spans {
			copied = append(copied, append([]int(nil), span...))
		}
		out.Spans = append(out.Spans, copied)
	}
	for _, loan := range lend.Loans {
		loan.Place.Steps = append([]api.Step(nil), loan.Place.Steps...)
		out.Loans = append(out.Loans, loan)
	}
	for _, row := range lend.Out {
		out.Out = append(out.Out, append([]int(nil), row...))
	}
	return out
}

// holdLend holds what Lend answers of a function against the oracle, and answers the function's fault.
func holdLend(t *testing.T, told any, p api.Program, n int) api.Fault {
	t.Helper()
	o := newOracle(p, n)
	want, got := plain(o.lend()), plain(Lend(p, n))
	if !reflect.DeepEqual(got, want) {
		f := p.Fns[n]
		t.Errorf("%q: function %d:\n%s\nnot %s\n%s\nnot %s", told, n, tellSpans(f, got), tellSpans(f, want), tellLoans(f, got), tellLoans(f, want))
	}
	return o.fault(want)
}

// holdProgram holds all that is answered of a program against the oracle, and answers its fault.
func holdProgram(t *testing.T, told any, p api.Program) api.Fault {
	t.Helper()
	want := api.Fault{}
	for n := range p.Fns {
		if fault := holdLend(t, told, p, n); want.Kind == api.OK {
			want = fault
		}
	}
	if got := Check(p); got != want {
		t.Errorf("%q: %v, not %v", told, got, want)
	}
	return want
}
