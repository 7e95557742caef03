package owns

import (
	"math/rand"
	"reflect"
	"slices"
	"testing"

	"holdfast/api"
	"holdfast/check"
	"holdfast/scope"
	"holdfast/traits"
)

// items are what made code speaks of: function f has locals of many types, there at the beginning or not, mut or not.
const items = "mod main { struct D { b: Box<int>, i: int } impl Drop for D { fn drop(self: &mut D) { } } struct P { a: Box<int>, q: (Box<int>, int), d: D } enum E { N, A(Box<int>, int), B((Box<int>, P)) } trait T1 { fn t(self: &Self, x: Box<int>) -> int; } impl T1 for P { fn t(self: &P, x: Box<int>) -> int { 1 } } " +
	"fn eat(b: Box<int>, i: int) -> int { i } fn swap<A>(x: A, y: A) -> (A, A) { (y, x) } fn bud(a: Box<int>, b: Box<int>) { let c = fn[a](x: int) -> int { x }; let h = spawn[b] -> Box<int> { b }; } " +
	"fn f(i: int, mut j: int, y: bool, b: Box<int>, mut w: Box<int>, p: P, mut q: P, e: E, d: D, r: &'static P, m: &'static mut P, n: &'static &'static mut P, a: &'static mut &'static P, o: Box<P>, mut u: Box<Box<int>>, cl: fn(int) -> int, rc: &'static fn(int) -> int, v: Vec<int>, rv: &'static Vec<int>) -> int { " +
	"let mut bb: Box<int>; let k: int; let mut l: bool; let g: Box<int>; let mut h: P; let mut z: E; let s: (Box<int>, (Box<int>, int)); let mut ss: (Box<int>, (Box<int>, int)); let ri: &Box<int>; let mi: &mut Box<int>; let rp: &P; let mp: &mut P; let tu: (Box<int>, Box<int>); let tc: fn(int) -> int; let th: Handle<Box<int>>; let ii: &int; let em: (); let dd: D; 1 } fn main(n: int) -> int { n } }"

// coder makes up code for function f.
type coder struct {
	*rand.Rand
	oracle
	places []api.Place // of which it speaks
	kinds  []api.Type  // theirs
}

// grow adds places with up to so many steps more.
func (c *coder) grow(p api.Place, depth int) {
	types := c.types(p)
	t := types[len(types)-1]
	c.places, c.kinds = append(c.places, p), append(c.kinds, t)
	if depth == 0 {
		return
	}
	step := func(s api.Step) {
		c.grow(api.Place{Local: p.Local, Steps: append(slices.Clone(p.Steps), s)}, depth-1)
	}
	switch {
	case t.Kind == api.TyRef, t.Kind == api.TyMut, t.Kind == api.TyLib && t.N == api.LyBox:
		step(api.Step{Kind: api.StepDeref})
	case t.Kind == api.TyTuple:
		for n := range t.Args {
			step(api.Step{Kind: api.StepField, N: n})
		}
	case t.Kind == api.TyData && c.p.Datas[t.N].Enum:
		for n, variant := range c.p.Datas[t.N].Cases {
			for m := range variant.Parts {
				step(api.Step{Kind: api.StepCase, N: n, M: m})
			}
		}
	case t.Kind == api.TyData:
		for n := range c.p.Datas[t.N].Cases[0].Parts {
			step(api.Step{Kind: api.StepField, N: n})
		}
	}
}

func newCoder(p api.Program, seed int64) *coder {
	c := &coder{Rand: rand.New(rand.NewSource(seed)), oracle: newOracle(p, p.Fns[fnOf(p, "f")])}
	// Few locals at a time: they have to meet again.
	for range 5 + c.Intn(8) {
		c.grow(api.Place{Local: c.Intn(len(c.f.Vars))}, 1+c.Intn(4))
	}
	return c
}

// place is a place of a type.
func (c *coder) place(of api.Type) (api.Place, bool) {
	start := c.Intn(len(c.places))
	for k := range c.places {
		if n := (start + k) % len(c.places); scope.Same(c.kinds[n], of) {
			return c.places[n], true
		}
	}
	return api.Place{}, false
}

func (c *coder) operand(of api.Type) (api.Oper, bool) {
	if c.Intn(3) == 0 && of.Kind == api.TyInt {
		return api.Oper{Kind: api.OpInt, N: c.Intn(3)}, true
	}
	if c.Intn(3) == 0 && of.Kind == api.TyBool {
		return api.Oper{Kind: api.OpBool, N: c.Intn(2)}, true
	}
	p, ok := c.place(of)
	if traits.Has(c.p, nil, api.TrCopy, of) && c.Intn(3) > 0 {
		return api.Oper{Kind: api.OpCopy, Place: p}, ok
	}
	return api.Oper{Kind: api.OpMove, Place: p}, ok
}

// filled is an instruction with operands of these types, and a To of a type.
func (c *coder) filled(i api.Instr, out api.Type, ins ...api.Type) (api.Instr, bool) {
	to, ok := c.place(out)
	i.To = to
	for _, in := range ins {
		arg, found := c.operand(in)
		i.Args, ok = append(i.Args, arg), ok && found
	}
	return i, ok
}

// called is an instruction by a signature.
func (c *coder) called(i api.Instr, sig api.Sig) (api.Instr, bool) {
	var ins []api.Type
	for _, in := range sig.Ins {
		ins = append(ins, scope.Subst(in, i.Types))
	}
	return c.filled(i, scope.Subst(sig.Out, i.Types), ins...)
}

// some is a place, and its type.
func (c *coder) some() (api.Place, api.Type) {
	n := c.Intn(len(c.places))
	return c.places[n], c.kinds[n]
}

// instr is an instruction of a kind, if there is one with what it has come upon: jumps lead to one of so many.
func (c *coder) instr(op, many int) (api.Instr, bool) {
	anInt, aBool := api.Type{Kind: api.TyInt}, api.Type{Kind: api.TyBool}
	from, t := c.some()
	i := api.Instr{Op: op, From: from}
	switch i.Op {
	case api.IUse, api.IPut:
		return c.filled(i, t, t)
	case api.IBin:
		if i.N = c.Intn(api.ONeg); i.N <= api.ORem {
			return c.filled(i, anInt, anInt, anInt)
		}
		return c.filled(i, aBool, anInt, anInt)
	case api.IUn:
		if c.Intn(2) == 0 {
			i.N = api.ONot
			return c.filled(i, aBool, aBool)
		}
		i.N = api.ONeg
		return c.filled(i, anInt, anInt)
	case api.IRef:
		return c.filled(i, api.Type{Kind: api.TyRef, Args: []api.Type{t}})
	case api.IMut:
		return c.filled(i, api.Type{Kind: api.TyMut, Args: []api.Type{t}})
	case api.ITuple:
		i, ok := c.filled(i, t, t.Args...)
		return i, ok && t.Kind == api.TyTuple
	case api.ITag:
		i, ok := c.filled(i, anInt)
		return i, ok && t.Kind == api.TyData && c.p.Datas[t.N].Enum
	case api.IMake:
		if t.Kind != api.TyData {
			return i, false
		}
		i.N, i.M = t.N, c.Intn(len(c.p.Datas[t.N].Cases))
		return c.called(i, check.CaseSig(c.p.Datas[t.N], t.N, i.M))
	}
	return c.rest(i, t, many)
}

func (c *coder) rest(i api.Instr, t api.Type, many int) (api.Instr, bool) {
	anInt, aBool := api.Type{Kind: api.TyInt}, api.Type{Kind: api.TyBool}
	switch i.Op {
	case api.ICall:
		if c.Intn(2) == 0 {
			i.N = fnOf(c.p, "eat")
			return c.called(i, c.p.Fns[i.N].Sig)
		}
		i.N, i.Types = fnOf(c.p, "swap"), []api.Type{t}
		return c.called(i, c.p.Fns[i.N].Sig)
	case api.ILib:
		i.N, i.Types = []int{api.LBoxed, api.LUnbox, api.LAt, api.LLen, api.LVec}[c.Intn(5)], []api.Type{anInt}
		return c.called(i, api.StdSig(i.N))
	case api.IMethod:
		i.N, i.Types = api.TrFirst, []api.Type{t}
		i, ok := c.called(i, check.MethodSig(i.N, c.p.Traits[i.N].Methods[0]))
		return i, ok && traits.Has(c.p, nil, i.N, t)
	case api.IClos, api.ISpawn:
		i.N = slices.IndexFunc(c.p.Fns, func(f api.FnDef) bool { return (f.Kind == api.FnSpawn) == (i.Op == api.ISpawn) && f.Kind >= 0 })
		f := c.p.Fns[i.N]
		if i.Op == api.ISpawn {
			return c.filled(i, api.Type{Kind: api.TyLib, N: api.LyHandle, Args: []api.Type{f.Sig.Out}}, f.Env...)
		}
		return c.filled(i, api.Type{Kind: api.TyFn, N: f.Kind, Args: append(slices.Clone(f.Sig.Ins[1:]), f.Sig.Out)}, f.Env...)
	case api.IInvoke:
		closure := api.Type{Kind: api.TyFn, Args: []api.Type{anInt, anInt}}
		return c.filled(i, anInt, api.Type{Kind: api.TyRef, Args: []api.Type{closure}}, anInt)
	case api.IEnd:
		i.N = max(1, i.From.Local)
	case api.IJump:
		i.N = c.Intn(many)
		return i, c.Intn(3) == 0
	case api.IIf:
		i.N = c.Intn(many)
		arg, ok := c.operand(aBool)
		i.Args = []api.Oper{arg}
		return i, ok
	default:
		return i, c.Intn(6) == 0
	}
	return i, true
}

// code is code that mostly goes well for some time.
func (c *coder) code() []api.Instr {
	many := 4 + c.Intn(14)
	var code []api.Instr
	for len(code) < many-1 {
		op, careless := c.Intn(api.IPanic+1), c.Intn(16) == 0
		for range 6 {
			if i, ok := c.instr(op, many); ok && (careless || !c.spoils(code, i)) {
				code = append(code, i)
				break
			}
		}
	}
	last := []api.Instr{{Op: api.IRet}, {Op: api.IPanic}, {Op: api.IJump, N: c.Intn(many)}}[c.Intn(3)]
	return append(code, last)
}

// spoils says whether an instruction would be a fault behind others, if no jump led anywhere else.
func (c *coder) spoils(code []api.Instr, i api.Instr) bool {
	f := c.f
	f.Code = append(slices.Clone(code), i)
	for n := range f.Code {
		if op := f.Code[n].Op; op > api.IEnd {
			f.Code[n] = api.Instr{Op: api.IIf, N: n + 1, Args: f.Code[n].Args}
		}
	}
	f.Clean = len(f.Code)
	f.Code = append(f.Code, api.Instr{Op: api.IResume})
	return Check(api.Program{Datas: c.p.Datas, Fns: []api.FnDef{f}}).Kind != api.OK
}

// plain is a flow in which lists with nothing in them are nil.
func plain(flow api.Flow) api.Flow {
	flow.Paths = slices.Clone(flow.Paths)
	for k := range flow.Paths {
		if len(flow.Paths[k].Steps) == 0 {
			flow.Paths[k].Steps = nil
		}
	}
	return flow
}

// holdFlow holds what Flow answers of a function against the oracle, and answers the function's first fault.
func holdFlow(t *testing.T, told any, p api.Program, n int) api.Fault {
	t.Helper()
	f := p.Fns[n]
	o := newOracle(p, f)
	want, got := plain(o.flow()), plain(Flow(p, n))
	if !reflect.DeepEqual(got, want) {
		t.Errorf("%v: function %d: paths %s, not %s", told, n, tellPaths(f, got), tellPaths(f, want))
		for k := range f.Code {
			if got, want := tellRow(got, k), tellRow(want, k); got != want {
				t.Errorf("%v: function %d, ahead of %d: %s, not %s", told, n, k, got, want)
			}
		}
	}
	return o.fault(want)
}

// holdCheck holds what Check answers against the first fault of several.
func holdCheck(t *testing.T, told any, p api.Program, faults ...api.Fault) api.Fault {
	t.Helper()
	want := api.Fault{}
	for _, fault := range faults {
		if want.Kind == api.OK {
			want = fault
		}
	}
	if got := Check(p); got != want {
		t.Errorf("%v: %v, not %v", told, got, want)
	}
	return want
}

// P22, P23: made code.
func TestMadeCode(t *testing.T) {
	p := lowered(t, items)
	n := fnOf(p, "f")
	faults, ops, lost := map[api.Errno]int{}, map[int]int{}, 0
	for seed := range int64(700) {
		q := recoded(t, p, n, newCoder(p, seed).code())
		faults[holdCheck(t, seed, q, holdFlow(t, seed, q, n)).Kind]++
		flow := Flow(q, n)
		for k, i := range q.Fns[n].Code[:q.Fns[n].Clean] {
			ops[i.Op]++
			lost += count(!flow.Init[k][0] && !flow.Hole[k][0])
		}
	}
	// Without these there would be nothing to see.
	for _, kind := range []api.Errno{api.OK, api.ErrHole, api.ErrAgain, api.ErrMut, api.ErrMove} {
		if faults[kind] < 15 {
			t.Error("faults:", faults)
		}
	}
	for op := range api.IResume {
		if ops[op] < 15 {
			t.Error(words[op], ops[op])
		}
	}
	if lost < 100 {
		t.Error(lost)
	}
}
