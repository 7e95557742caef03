package graph

import (
	"slices"
	"strconv"
	"strings"
	"testing"

	"holdfast/api"
)

// numbered puts the numbers of functions, closures, data types, traits in the place of their names.
func numbered(p api.Program, text string) string {
	var pairs []string
	for n, f := range p.Fns {
		if f.Name != "" {
			pairs = append(pairs, "fn:"+f.Name+"!", strconv.Itoa(n))
		}
	}
	closures := map[string]int{}
	for _, f := range p.Fns {
		for _, i := range f.Code {
			if i.Op == api.IClos || i.Op == api.ISpawn {
				closures[f.Vars[i.To.Local].Name] = i.N
			}
		}
	}
	for name, n := range closures {
		pairs = append(pairs, "fn:"+name+"!", strconv.Itoa(n))
	}
	for n, d := range p.Datas {
		pairs = append(pairs, "data:"+d.Name+"!", strconv.Itoa(n))
	}
	for n, d := range p.Traits {
		pairs = append(pairs, "trait:"+d.Name+"!", strconv.Itoa(n))
	}
	for n := range api.Libs {
		pairs = append(pairs, "lib:"+api.StdFn(n)+"!", strconv.Itoa(n))
	}
	return strings.NewReplacer(pairs...).Replace(text)
}

// holdsNamed is holds for instructions that name what they call.
func holdsNamed(t *testing.T, want bool, instrs ...string) {
	t.Helper()
	p := lowered(t, text)
	for _, written := range instrs {
		told := numbered(p, written)
		if strings.Contains(told, "!") {
			t.Fatalf("%q speaks of what is not there", written)
		}
		holds(t, want, told)
	}
}

// P20: ICall, of functions that are no closures.
func TestCalls(t *testing.T) {
	holdsNamed(t, true, "e call#fn:zero!", "xi call#fn:one! <x> cx", "e call#fn:zero!/5", "b call#fn:two! <i,b> cri cb", "y call#fn:two! <x,y> crx my", "i call#fn:main! ci", "e call#fn:zero! @99", "y call#fn:two! <i,y> mri my")
	holdsNamed(t, false, "i call#fn:zero!", "e call#fn:zero! ci", "e call#fn:zero! <i>", "xi call#fn:one! <i> ci", "xi call#fn:one! cx", "xi call#fn:one! <x>", "xi call#fn:one! <x> cx cx", "xi call#fn:one! <x,x> cx", "xi call#fn:one! <y> my", "99 call#fn:one! <x> cx", "i call#99 ci", "i call#-1 ci", "e call#fn:z0!", "e call#fn:z3!", "i call#fn:m0!", "b call#fn:two! <b,b> cri cb", "b call#fn:two! <y,b> cri cb", "b call#fn:two! <k,b> cri cb", "y call#fn:two! <x,y> my crx", "y call#fn:two! <x,y> crx cy", "b call#fn:two! <i,b> cri maybe", "i call#fn:f!")
}

// P20: ILib.
func TestLibs(t *testing.T) {
	holdsNamed(t, true, "p.1.1 lib#lib:boxed! <i> ci", "e lib#lib:out! ci", "v lib#lib:vec! <i>", "i lib#lib:len! <i> crv", "ri lib#lib:at! <i> mrv #3", "o lib#lib:join! <i> mh", "y lib#lib:replace! <y> mru my", "k lib#lib:rc! <i> ci")
	holdsNamed(t, false, "p.1.1 lib#lib:boxed! ci", "p.1.1 lib#lib:boxed! <b> ci", "p.1.1 lib#lib:boxed! <i> cb", "p.1.1 lib#lib:boxed! <i>", "p.1.1 lib#lib:boxed! <i> ci ci", "i lib#lib:boxed! <i> ci", "e lib#lib:out! <i> ci", "e lib#lib:out!", "i lib#lib:out! ci", "v lib#lib:vec!", "e lib#-1", "e lib#41", "e lib#99 ci", "v lib#lib:vec! <b>", "v lib#lib:vec! <i,i>", "i lib#lib:len! <i> mv", "ri lib#lib:at! <i> mrv", "y lib#lib:replace! <y> mry my")
}

// P20: a trait that is asked of a type: Copy, by the function's own Gens.
func TestBounds(t *testing.T) {
	const cells = "mod main { trait T1 { fn t(self: &Self) -> int; } impl<A: Copy> T1 for Option<A> { fn t(self: &Self) -> int { 1 } } fn f<T: Copy, U>(i: int, x: T, y: U, ci: &Cell<int>, cx: &Cell<T>, cy: &Cell<U>, cb: &Cell<Box<int>>, bx: Box<int>, o: Option<T>, ou: Option<U>, ro: &Option<T>, rou: &Option<U>, xu: (T, U), cxu: &Cell<(T, U)>, xx: (T, T), cxx: &Cell<(T, T)>) -> int { 1 } fn main(n: int) -> int { n } }"
	p := lowered(t, cells)
	w := writer{t, p.Fns[0]}
	w.f = p.Fns[fnOf(p, "f")]
	for written, want := range map[string]bool{
		"i lib#lib:get! <i> cci": true, "x lib#lib:get! <x> ccx": true, "y lib#lib:get! <y> ccy": false, "bx lib#lib:get! <bx> ccb": false, "xx lib#lib:get! <xx> ccxx": true, "xu lib#lib:get! <xu> ccxu": false,
		"i method#trait:T1!/0 <o> cro": true, "i method#trait:T1!/0 <ou> crou": false, "i method#trait:T1!/0 <i> cro": false, "o use co": true, "ou use cou": false, "ou use mou": true,
	} {
		if got := judged(p, w.instr(numbered(p, written))); got != want {
			t.Errorf("%q: %v", written, got)
		}
	}
}

// P20: IMethod, of the program's own traits, of types that have them.
func TestMethods(t *testing.T) {
	holdsNamed(t, true, "i method#trait:T1!/0 <i> cri #3", "x method#trait:T1!/0 <x> crx ci", "b method#trait:T1!/1 <x> cx", "b method#trait:T1!/1 <i> #7")
	holdsNamed(t, false, "i method#trait:T1!/0 cri #3", "i method#trait:T1!/0 <b> cri #3", "i method#trait:T1!/0 <i> cri", "x method#trait:T1!/0 <i> cri #3", "i method#trait:T1!/2 <i> cri #3", "i method#trait:T1!/-1 <i> cri #3", "b method#trait:T1!/1 <y> my", "e method#trait:T2!/0 <i> cri", "e method#trait:Drop!/0 <d> mru", "i method#trait:Copy!/0 <i> cri", "i method#-1 <i> cri #3", "i method#99 <i> cri #3", "b method#trait:T1!/1 <b> cb", "i method#trait:T1!/0 <i,i> cri #3", "b method#trait:T1!/1 <k> mk")
}

// P20: IMake, of structs and variants.
func TestMakes(t *testing.T) {
	holdsNamed(t, true, "s make#data:S! <x> cx #3", "si make#data:S!/0 <i> ci ci", "en make#data:E!/0", "en make#data:E!/1 ci cb", "en make#data:E!/2 mp.1.1", "o make#data:Option!/1 <i> #2", "o make#data:Option! <i>", "ot make#0/1 <x> cx", "l make#data:L! <i>", "d make#data:D! ci", "em make#data:Empty!")
	holdsNamed(t, false, "s make#data:S! <x> #3 cx", "s make#data:S! cx #3", "s make#data:S! <i> cx #3", "s make#data:S!/1 <x> cx #3", "s make#data:S!/-1 <x> cx #3", "si make#data:S! <x> cx #3", "en make#data:E!/3", "en make#data:E!/1 ci", "en make#data:E!/0 ci", "en make#data:E!/0 <i>", "en make#data:E!/1 cb ci", "o make#data:Option!/1 #2", "o make#data:Option!/1 <b> true", "i make#99", "i make#-1", "d make#data:D!", "99 make#data:D! ci", "em make#data:Void!", "ot make#data:Option!/1 <x> my")
}

// P20: which types are types: of those that an instruction has.
func TestTypes(t *testing.T) {
	p := lowered(t, text)
	n := fnOf(p, "f")
	ty := func(kind, n int, args ...api.Type) api.Type { return api.Type{Kind: kind, N: n, Args: args} }
	i := ty(api.TyInt, 0)
	data := func(name string) int {
		return slices.IndexFunc(p.Datas, func(d api.DataDef) bool { return d.Name == name })
	}
	good := []api.Type{i, ty(api.TyBool, 0), ty(api.TyTuple, 0), ty(api.TyTuple, 0, i, i, i), ty(api.TyData, data("S"), i), ty(api.TyData, data("E")), ty(api.TyParam, 0), ty(api.TyParam, 1), ty(api.TyRef, 0, i), ty(api.TyMut, 0, i), ty(api.TyFn, 0, i), ty(api.TyFn, 2, i, i), ty(api.TyLib, api.LyBox, i), ty(api.TyLib, api.LyLock, i), {Kind: api.TyInt, Lives: []int{1, 2, 3}}, ty(api.TyTuple, 0, ty(api.TyRef, 0, ty(api.TyParam, 1)))}
	bad := []api.Type{ty(api.TyInt, 0, i), ty(api.TyBool, 0, i), ty(api.TyNever, 0), ty(api.TyData, data("S")), ty(api.TyData, data("S"), i, i), ty(api.TyData, data("E"), i), ty(api.TyData, -1), ty(api.TyData, len(p.Datas)), ty(api.TyParam, 2), ty(api.TyParam, -1), ty(api.TyParam, 0, i), ty(api.TyRef, 0), ty(api.TyRef, 0, i, i), ty(api.TyMut, 0), ty(api.TyFn, 0), ty(api.TyFn, 3, i), ty(api.TyFn, -1, i), ty(api.TyLib, api.LyBox), ty(api.TyLib, api.LyBox, i, i), ty(api.TyLib, -1, i), ty(api.TyLib, api.StdTypes, i), ty(99, 0), ty(-1, 0)}
	for _, b := range slices.Clone(bad) {
		bad = append(bad, ty(api.TyTuple, 0, i, b), ty(api.TyLib, api.LyVec, b), ty(api.TyFn, 1, i, b))
	}
	// A vec of the type, into a place that has its type: only whether it is a type counts.
	try := func(told api.Type) bool {
		q := p
		q.Fns = slices.Clone(p.Fns)
		f := q.Fns[n]
		f.Vars = append(slices.Clone(f.Vars), api.Local{Type: ty(api.TyLib, api.LyVec, told)})
		q.Fns[n] = f
		return judged(q, api.Instr{Op: api.ILib, N: api.LVec, To: api.Place{Local: len(f.Vars) - 1}, Types: []api.Type{told}})
	}
	for _, told := range good {
		if !try(told) {
			t.Errorf("%v is a type", told)
		}
	}
	for _, told := range bad {
		if try(told) {
			t.Errorf("%v is no type", told)
		}
	}
}

// P20: IClos and ISpawn.
func TestClosures(t *testing.T) {
	holdsNamed(t, true, "z0 clos#fn:z0! <x,y> cx mry", "z1 clos#fn:z1! <x,y>", "z2 clos#fn:z2!/9 <x,y> my", "z3 spawn#fn:z3! <x,y> my ci", "hu spawn#fn:z4! <x,y>", "h spawn#fn:z3! <x,y> my #1")
	holdsNamed(t, false, "z0 clos#fn:z0! cx mry", "z0 clos#fn:z0! <x> cx mry", "z0 clos#fn:z0! <y,x> cx mry", "z0 clos#fn:z0! <x,y,x> cx mry", "z0 clos#fn:z0! <x,i> cx mry", "z0 clos#fn:z0! <x,y> cx", "z0 clos#fn:z0! <x,y> mry cx", "z0 clos#fn:z0! <x,y> cx mry ci", "z1 clos#fn:z0! <x,y> cx mry", "z2 clos#fn:z1! <x,y>", "i clos#fn:z1! <x,y>", "99 clos#fn:z1! <x,y>",
		"z3 clos#fn:z3! <x,y> my ci", "h clos#fn:z4! <x,y>", "z0 spawn#fn:z0! <x,y> cx mry", "z1 spawn#fn:z1! <x,y>", "hu spawn#fn:zero!", "z1 clos#fn:zero!", "z1 clos#fn:one! <x>", "z1 clos#-1", "z1 clos#999", "hu spawn#-1", "hu spawn#999", "h spawn#fn:z4! <x,y>", "hu spawn#fn:z4!", "hu spawn#fn:z4! <x>", "hu spawn#fn:z3! <x,y> my ci", "z3 spawn#fn:z3! <x,y> ci my", "z3 spawn#fn:z3! <x,y> my",
		// Closures of functions with other type parameters.
		"cm clos#fn:w0! ci", "cm clos#fn:w0! <x> ci", "cm clos#fn:w0! <x,y> ci", "cm clos#fn:m0!", "cm clos#fn:m0! <x,y>", "h spawn#fn:w2! <x>", "h spawn#fn:w2! <x,y>", "h spawn#fn:w2!")
}

// P20: what goes to a thread is Send, by the Gens of the function whose code it is.
func TestSends(t *testing.T) {
	const spawns = "mod main { fn f<T: Send>(y: T, h: Handle<T>, hi: Handle<int>) { let z = spawn[y] -> T { y }; let w = spawn[y] -> int { 1 }; } fn main(n: int) -> int { n } }"
	p := lowered(t, spawns)
	w := writer{t, p.Fns[0]}
	for _, written := range []string{"h spawn#fn:z! <y> my", "hi spawn#fn:w! <y> my"} {
		i := w.instr(numbered(p, written))
		if !judged(p, i) {
			t.Errorf("%q is well-formed", written)
		}
		for _, env := range []bool{false, true} {
			q := lowered(t, spawns)
			other := api.Type{Kind: api.TyLib, N: api.LyRc, Args: []api.Type{{Kind: api.TyInt}}}
			q.Fns[0].Vars = append(q.Fns[0].Vars, api.Local{Type: api.Type{Kind: api.TyLib, N: api.LyHandle, Args: []api.Type{other}}}, api.Local{Type: other})
			last := len(q.Fns[0].Vars) - 1
			j := i
			if env {
				q.Fns[i.N].Env[0] = other
				j.Args = []api.Oper{{Kind: api.OpMove, Place: api.Place{Local: last}}}
			} else {
				q.Fns[i.N].Sig.Out = other
				j.To.Local = last - 1
			}
			if judged(q, j) {
				t.Errorf("%q: an Rc goes to a thread", written)
			}
		}
		q := lowered(t, spawns)
		q.Fns[0].Sig.Gens[0].Traits = nil
		if judged(q, i) {
			t.Errorf("%q: what is not Send goes to a thread", written)
		}
	}
}

// P20: IInvoke, of closures or references to them.
func TestInvokes(t *testing.T) {
	holds(t, true, "b invoke#0 crc ci", "b invoke#0 mrc #3", "i invoke#1 mrcm", "y invoke#2 mco ci cx", "b invoke#0/5 crc ci")
	holds(t, false, "b invoke#0", "b invoke#0 crc", "b invoke#0 crc cb", "b invoke#0 crc ci ci", "i invoke#0 crc ci", "99 invoke#0 crc ci", "b invoke#0 mc ci", "b invoke#2 mc ci", "b invoke#1 mrmc ci", "b invoke#0 mrmc ci", "i invoke#0 mrrm", "i invoke#1 mrrm", "i invoke#0 mrcm", "i invoke#1 crcm", "i invoke#1 mcm", "i invoke#2 mcm", "y invoke#2 mco ci", "y invoke#2 mco cx ci", "y invoke#2 mco ci cx ci", "x invoke#2 mco ci cx", "b invoke#3 crc ci", "b invoke#-1 crc ci", "i invoke#1 ci", "i invoke#0 cri", "i invoke#2 ci", "b invoke#0 c99 ci", "b invoke#1 crc ci", "y invoke#3 mco ci cx", "i invoke#1 mrim")
}
