package graph

import (
	"math/rand"
	"reflect"
	"slices"
	"testing"

	"holdfast/api"
	"holdfast/scope"
	"holdfast/traits"
)

func same(a, b any) bool {
	return reflect.DeepEqual(a, b)
}

// oracle says slowly which instructions are well-formed: it finds out what an instruction must take and give, and holds types against one another part by part.
type oracle struct {
	p api.Program
	f api.FnDef
}

// none is what has no type.
var none = api.Type{Kind: -1}

func typ(kind, n int, args ...api.Type) api.Type {
	return api.Type{Kind: kind, N: n, Args: args}
}

var (
	anInt  = typ(api.TyInt, 0)
	aBool  = typ(api.TyBool, 0)
	aTuple = typ(api.TyTuple, 0)
)

func (o oracle) place(p api.Place) api.Type {
	if p.Local < 0 || p.Local >= len(o.f.Vars) {
		return none
	}
	t := o.f.Vars[p.Local].Type
	for _, s := range p.Steps {
		var parts []api.Type
		switch s.Kind {
		case api.StepField:
			parts = o.parts(t, false, 0)
		case api.StepCase:
			parts = o.parts(t, true, s.N)
			s.N = s.M
		case api.StepDeref:
			if t.Kind == api.TyRef || t.Kind == api.TyMut || t.Kind == api.TyLib && t.N == api.LyBox {
				parts = t.Args
			}
			s.N = 0
		}
		if s.N < 0 || s.N >= len(parts) {
			return none
		}
		t = parts[s.N]
	}
	return t
}

// parts are the types of what a tuple, a struct or a variant is made of.
func (o oracle) parts(t api.Type, enum bool, variant int) []api.Type {
	if t.Kind == api.TyTuple && !enum {
		return t.Args
	}
	if t.Kind != api.TyData || o.p.Datas[t.N].Enum != enum || variant < 0 || variant >= len(o.p.Datas[t.N].Cases) {
		return nil
	}
	var out []api.Type
	for _, part := range o.p.Datas[t.N].Cases[variant].Parts {
		out = append(out, scope.Subst(part.Type, t.Args))
	}
	return out
}

func (o oracle) operand(a api.Oper) api.Type {
	switch a.Kind {
	case api.OpInt:
		return anInt
	case api.OpBool:
		if a.N == 0 || a.N == 1 {
			return aBool
		}
	case api.OpMove:
		return o.place(a.Place)
	case api.OpCopy:
		if t := o.place(a.Place); t.Kind >= 0 && traits.Has(o.p, o.f.Sig.Gens, api.TrCopy, t) {
			return t
		}
	}
	return none
}

// form is what an instruction must take and give.
type form struct {
	ins []api.Type
	out api.Type
}

// forms are all that an instruction may be; none: it is not well-formed.
func (o oracle) forms(i api.Instr) []form {
	var own []api.Type
	for _, a := range i.Args {
		own = append(own, o.operand(a))
	}
	lacks := slices.ContainsFunc(own, func(t api.Type) bool { return t.Kind < 0 })
	from := o.place(i.From)
	switch i.Op {
	case api.IUse, api.IPut:
		if len(own) == 1 && !lacks {
			return []form{{own, own[0]}}
		}
	case api.ITuple:
		if !lacks {
			return []form{{own, typ(api.TyTuple, 0, own...)}}
		}
	case api.IRef:
		return []form{{own, typ(api.TyRef, 0, from)}}
	case api.IMut:
		return []form{{own, typ(api.TyMut, 0, from)}}
	case api.ITag:
		if from.Kind == api.TyData && o.p.Datas[from.N].Enum {
			return []form{{own, anInt}}
		}
	case api.IBin:
		out := []form{{[]api.Type{anInt, anInt}, anInt}}
		if i.N >= api.OEq {
			out[0].out = aBool
		}
		if i.N == api.OEq || i.N == api.ONe {
			out = append(out, form{[]api.Type{aBool, aBool}, aBool})
		}
		if i.N >= api.OAdd && i.N <= api.OGe {
			return out
		}
	case api.IUn:
		if i.N == api.ONeg {
			return []form{{[]api.Type{anInt}, anInt}}
		}
		if i.N == api.ONot {
			return []form{{[]api.Type{aBool}, aBool}}
		}
	case api.IInvoke:
		return o.invoked(i, own)
	case api.IClos, api.ISpawn:
		return o.closed(i)
	default:
		return o.called(i)
	}
	return nil
}

func (o oracle) invoked(i api.Instr, own []api.Type) []form {
	if len(own) == 0 {
		return nil
	}
	closure := own[0]
	kind := map[int]int{api.FnFn: api.TyRef, api.FnMut: api.TyMut}[i.N]
	if kind != 0 {
		if closure.Kind != kind {
			return nil
		}
		closure = closure.Args[0]
	}
	if closure.Kind != api.TyFn || closure.N != i.N {
		return nil
	}
	last := len(closure.Args) - 1
	return []form{{append(own[:1:1], closure.Args[:last]...), closure.Args[last]}}
}

func (o oracle) closed(i api.Instr) []form {
	if i.N < 0 || i.N >= len(o.p.Fns) {
		return nil
	}
	f := o.p.Fns[i.N]
	thread := i.Op == api.ISpawn
	if f.Kind < 0 || thread != (f.Kind == api.FnSpawn) || len(i.Types) != len(o.f.Sig.Gens) || len(i.Types) != len(f.Sig.Gens) {
		return nil
	}
	for n, t := range i.Types {
		if !scope.Same(t, typ(api.TyParam, n)) {
			return nil
		}
	}
	if thread {
		for _, t := range append([]api.Type{f.Sig.Out}, f.Env...) {
			if !traits.Has(o.p, o.f.Sig.Gens, api.TrSend, t) {
				return nil
			}
		}
		return []form{{f.Env, typ(api.TyLib, api.LyHandle, f.Sig.Out)}}
	}
	return []form{{f.Env, typ(api.TyFn, f.Kind, append(slices.Clone(f.Sig.Ins[1:]), f.Sig.Out)...)}}
}

func (o oracle) called(i api.Instr) []form {
	var sig api.Sig
	within := func(n, many int) bool { return 0 <= n && n < many }
	switch {
	case i.Op == api.ICall && within(i.N, len(o.p.Fns)) && o.p.Fns[i.N].Kind == api.FnPlain:
		sig = o.p.Fns[i.N].Sig
	case i.Op == api.ILib && within(i.N, api.Libs):
		sig = api.StdSig(i.N)
	case i.Op == api.IMethod && within(i.N-api.TrFirst, len(o.p.Traits)-api.TrFirst) && within(i.M, len(o.p.Traits[i.N].Methods)):
		sig = o.p.Traits[i.N].Methods[i.M].Sig
		sig.Gens = []api.Gen{{Traits: []int{i.N}}}
	case i.Op == api.IMake && within(i.N, len(o.p.Datas)) && within(i.M, len(o.p.Datas[i.N].Cases)):
		for _, part := range o.p.Datas[i.N].Cases[i.M].Parts {
			sig.Ins = append(sig.Ins, part.Type)
		}
		sig.Gens = make([]api.Gen, o.p.Datas[i.N].Gens)
		sig.Out = typ(api.TyData, i.N)
		for n := range sig.Gens {
			sig.Out.Args = append(sig.Out.Args, typ(api.TyParam, n))
		}
	default:
		return nil
	}
	if len(i.Types) != len(sig.Gens) {
		return nil
	}
	for n, t := range i.Types {
		if !o.isType(t) {
			return nil
		}
		for _, trait := range sig.Gens[n].Traits {
			if !traits.Has(o.p, o.f.Sig.Gens, trait, t) {
				return nil
			}
		}
	}
	out := form{out: scope.Subst(sig.Out, i.Types)}
	for _, in := range sig.Ins {
		out.ins = append(out.ins, scope.Subst(in, i.Types))
	}
	return []form{out}
}

func (o oracle) isType(t api.Type) bool {
	for _, arg := range t.Args {
		if !o.isType(arg) {
			return false
		}
	}
	args := len(t.Args)
	switch {
	case t.Kind == api.TyData && t.N >= 0 && t.N < len(o.p.Datas):
		return args == o.p.Datas[t.N].Gens
	case t.Kind == api.TyParam && t.N >= 0 && t.N < len(o.f.Sig.Gens), t.Kind == api.TyInt, t.Kind == api.TyBool:
		return args == 0
	case t.Kind == api.TyRef, t.Kind == api.TyMut, t.Kind == api.TyLib && api.StdType(t.N) != "":
		return args == 1
	case t.Kind == api.TyFn:
		return t.N >= 0 && t.N <= 2 && args > 0
	}
	return t.Kind == api.TyTuple
}

func (o oracle) isWell(i api.Instr) bool {
	inside := i.N >= 0 && i.N < o.f.Clean
	switch i.Op {
	case api.IRet, api.IPanic:
		return true
	case api.IJump:
		return inside
	case api.IIf:
		return inside && len(i.Args) == 1 && scope.Same(o.operand(i.Args[0]), aBool)
	case api.IEnd:
		return i.N >= 1 && i.N < len(o.f.Vars)
	}
	if i.Op < 0 || i.Op > api.IPut {
		return false
	}
	for _, f := range o.forms(i) {
		fits := f.out.Kind >= 0 && scope.Same(f.out, o.place(i.To))
		if i.Op == api.IRef || i.Op == api.IMut || i.Op == api.ITag { // their Args don't count
			f.ins = nil
			i.Args = nil
		}
		if len(f.ins) != len(i.Args) {
			continue
		}
		for n, in := range f.ins {
			fits = fits && scope.Same(in, o.operand(i.Args[n]))
		}
		if fits {
			return true
		}
	}
	return false
}

func (o oracle) first() int {
	if o.f.Clean < 1 || len(o.f.Code) != o.f.Clean+len(o.f.Vars)+1 {
		return 0
	}
	for n, i := range o.f.Code {
		left := len(o.f.Code) - 2 - n
		switch {
		case n < o.f.Clean && !o.isWell(i), n >= o.f.Clean && left >= 0 && (i.Op != api.IEnd || i.N != left), left < 0 && i.Op != api.IResume:
			return n
		}
	}
	if op := o.f.Code[o.f.Clean-1].Op; op != api.IJump && op != api.IRet && op != api.IPanic {
		return o.f.Clean - 1
	}
	return -1
}

// spoiler changes code at random, mostly a little.
type spoiler struct {
	*rand.Rand
	p api.Program
	f api.FnDef
}

func (s spoiler) number(n int) int {
	switch s.Intn(5) {
	case 0:
		return n + 1
	case 1:
		return n - 1
	case 2:
		return s.Intn(len(s.f.Vars) + 1)
	}
	return s.Intn(5)
}

func (s spoiler) place(p *api.Place) {
	p.Steps = slices.Clone(p.Steps)
	switch n := s.Intn(6); {
	case n == 0:
		p.Steps = append(p.Steps, api.Step{Kind: s.Intn(4), N: s.Intn(3), M: s.Intn(3)})
	case n == 1 && len(p.Steps) > 0:
		p.Steps = p.Steps[:len(p.Steps)-1]
	case n == 2 && len(p.Steps) > 0:
		step := &p.Steps[s.Intn(len(p.Steps))]
		step.Kind, step.N, step.M = s.Intn(4), s.number(step.N), s.number(step.M)
	default:
		p.Local = s.number(p.Local)
	}
}

// someType is a type of the program, or one of its parts, perhaps with a slip.
func (s spoiler) someType() api.Type {
	t := s.f.Vars[s.Intn(len(s.f.Vars))].Type
	for len(t.Args) > 0 && s.Intn(2) == 0 {
		t = t.Args[s.Intn(len(t.Args))]
	}
	t.Args = slices.Clone(t.Args)
	switch s.Intn(12) {
	case 0:
		t.N = s.number(t.N)
	case 1:
		t.Kind = s.Intn(11)
	case 2:
		t.Args = append(t.Args, typ(api.TyInt, 0))
	case 3:
		t.Lives = []int{s.Intn(3), 1}
	}
	return t
}

func (s spoiler) args(args []api.Oper) []api.Oper {
	args = slices.Clone(args)
	n := s.Intn(6)
	if len(args) == 0 || n == 0 {
		return append(args, api.Oper{Kind: s.Intn(5), N: s.Intn(3), Place: api.Place{Local: s.Intn(len(s.f.Vars))}})
	}
	at := s.Intn(len(args))
	switch n {
	case 1:
		return slices.Delete(args, at, at+1)
	case 2:
		args[at].Kind = s.Intn(5)
	case 3:
		other := s.Intn(len(args))
		args[at], args[other] = args[other], args[at]
	case 4:
		args[at].N = s.number(args[at].N)
	default:
		s.place(&args[at].Place)
	}
	return args
}

func (s spoiler) instr(i *api.Instr) {
	switch s.Intn(9) {
	case 0:
		i.Op = s.Intn(api.IResume+3) - 1
	case 1:
		i.N = s.number(i.N)
	case 2:
		i.M = s.number(i.M)
	case 3:
		s.place(&i.To)
	case 4:
		s.place(&i.From)
	case 5, 6:
		i.Args = s.args(i.Args)
	default:
		i.Types = slices.Clone(i.Types)
		if n := len(i.Types); n > 0 && s.Intn(3) > 0 {
			i.Types[s.Intn(n)] = s.someType()
		} else {
			i.Types = append(i.Types, s.someType())
		}
	}
}

func (s spoiler) code() {
	for range 1 + s.Intn(2) {
		s.instr(&s.f.Code[s.Intn(len(s.f.Code))])
	}
}

// busy has all instructions.
const busy = "mod main { struct S<A> { a: A, b: int } copy enum E { A, B(int, bool), C((int, int)) } trait T1 { fn t(self: &Self, x: int) -> int; fn u(self: Self, y: Self) -> Self; } impl T1 for int { fn t(self: &int, x: int) -> int { *self - x } fn u(self: int, y: int) -> int { -self + y } } " +
	"fn id<A>(x: A) -> A { x } fn cp<A: Copy>(x: &A, y: &mut A) -> (A, A) { *y = *x; (*x, *y) } fn g<T: T1 + Copy + Send>(x: T, e: E, b: bool, k: int) -> (T, int) { let c = fn[x, &k](q: int, r: int) -> int { q + *k }; let mut d = fn mut[&mut b]() -> bool { *b = !*b; *b }; let o = fn once[e](q: int) -> E { e }; let h = spawn[x, k] -> int { k }; let mut w = boxed(k); w = boxed(c(k, 2)); " +
	"let s = make S { a: T1::u(x, x), b: match o(3) { E::A => 1, E::B(7, true) => 2, E::B(ref y, _) => *y, E::C((y, 4)) => y, E::C(z) => cp(&z, &mut id((1, 2))).1.0 } }; while d() && k != 3 || b == true { if T1::t(&x, k) > k { break; } *w = *w % 2; } match join(h) { Option::Some(y) => { out(y); }, Option::None => panic } (s.a, T1::t(&s.b, *w)) } fn main(n: int) -> int { g(n, E::A, n < 2, n * 2 / 3).1 } }"

// P20: code that is changed at random.
func TestSpoiledCode(t *testing.T) {
	well, not := map[int]int{}, map[int]int{}
	programs := []api.Program{lowered(t, text), lowered(t, busy)}
	for seed := range int64(40000) {
		r := rand.New(rand.NewSource(seed))
		p := programs[r.Intn(len(programs))]
		n := r.Intn(len(p.Fns))
		s := spoiler{r, p, p.Fns[n]}
		s.f.Code = slices.Clone(s.f.Code)
		switch r.Intn(12) {
		case 0:
			at := r.Intn(len(s.f.Code))
			s.f.Code = slices.Delete(s.f.Code, at, at+1)
			s.f.Clean -= r.Intn(2)
		case 1:
			at := r.Intn(len(s.f.Code))
			s.f.Code = slices.Insert(s.f.Code, at, s.f.Code[r.Intn(len(s.f.Code))])
			s.f.Clean += r.Intn(3)
		default:
			s.code()
		}
		q := p
		q.Fns = slices.Clone(p.Fns)
		q.Fns[n] = s.f
		want, got := oracle{q, s.f}.first(), Check(q, n)
		if got != want {
			t.Fatalf("seed %d: %d, not %d: %v", seed, got, want, s.f.Code[max(0, want)])
		}
		for at, i := range s.f.Code {
			if at < len(p.Fns[n].Code) && !same(i, p.Fns[n].Code[at]) {
				if got == -1 {
					well[i.Op]++
				} else if got == at {
					not[i.Op]++
				}
			}
		}
	}
	// Without these there would be nothing to see.
	for op := range api.IResume {
		if well[op] < 2 || not[op] < 20 && op != api.IRet && op != api.IPanic {
			t.Error(words[op], well[op], not[op])
		}
	}
}
