package graph

import (
	"testing"

	"holdfast/api"
)

// text has a function f whose parameters are of all kinds of types, and things that it can speak of.
const text = "mod main { struct S<A> { a: A, b: int } enum E { A, B(int, bool), C(Box<int>) } enum L<A> { Nil, Cons(A, Box<L<(A, A)>>) } struct D { v: int } impl Drop for D { fn drop(self: &mut D) { } } struct Empty { } enum Void { } " +
	"trait T1 { fn t(self: &Self, x: int) -> Self; fn u(self: Self) -> bool; } impl T1 for int { fn t(self: &int, x: int) -> int { x } fn u(self: int) -> bool { true } } trait T2 { fn w(self: &Self); } " +
	"fn one<A>(x: A) -> (A, int) { (x, 1) } fn two<A: Copy + T1, B>(x: &A, y: B) -> B { y } fn zero() { } " +
	"fn f<T: Copy + T1, U: Send>(i: int, b: bool, e: (), p: (int, (bool, Box<int>)), s: S<T>, si: S<int>, en: E, o: Option<int>, ot: Option<T>, l: L<int>, d: D, em: Empty, r: &(int, bool), rm: &mut (int, bool), ri: &int, rim: &mut int, rs: &S<T>, bx: Box<Option<bool>>, x: T, y: U, rx: &T, ru: &mut U, c: fn(int) -> bool, cm: fn mut() -> int, co: fn once(int, T) -> U, rc: &fn(int) -> bool, rcm: &mut fn mut() -> int, rmc: &mut fn(int) -> bool, rrm: &fn mut() -> int, v: Vec<int>, rv: &Vec<int>, h: Handle<int>, hu: Handle<U>, xi: (T, int), k: Rc<int>, ry: &U, b2: (int, bool), ob: Option<bool>, ocm: &int) -> int " +
	"{ let z0 = fn[x, &y](q: int) -> T { x }; let z1 = fn mut[]() -> U { panic }; let z2 = fn once[y](q: (int, T)) -> (U, int) { (y, 1) }; let z3 = spawn[y, i] -> int { 1 }; let z4 = spawn[] -> U { panic }; 1 } " +
	"fn g<A: Copy>(n: int, q: A) { let w0 = fn[n]() -> int { n }; let w1 = fn[q]() -> A { q }; let w2 = spawn[] -> int { 1 }; } fn main(n: int) -> int { let m0 = fn[]() -> int { 1 }; n } }"

// holds looks which instructions are well-formed.
func holds(t *testing.T, want bool, instrs ...string) {
	t.Helper()
	p := lowered(t, text)
	w := writer{t, p.Fns[fnOf(p, "f")]}
	for _, written := range instrs {
		if got := judged(p, w.instr(written)); got != want {
			t.Errorf("%q: %v", written, got)
		}
	}
}

// P20: IUse, IPut; and which places and operands have types.
func TestUse(t *testing.T) {
	for _, name := range []string{"use", "put"} {
		holds(t, true, "i "+name+" #5", "0 "+name+" ci", "b "+name+" true", "b "+name+" false", "b "+name+" mb", "x "+name+" cx", "y "+name+" my", "p "+name+" mp", "c "+name+" mc", "rx "+name+" crx", "ru "+name+" mru", "o "+name+" co", "ot "+name+" cot", "e "+name+" ce")
		holds(t, false, "b "+name+" #5", "i "+name+" true", "b "+name+" maybe", "i "+name, "i "+name+" ci ci", "i "+name+" ?i", "99 "+name+" ci", "-1 "+name+" ci", "i "+name+" c99", "i "+name+" m-1", "y "+name+" cy", "x "+name+" my", "rx "+name+" mru", "ot "+name+" co", "c "+name+" cc", "s "+name+" cs", "p "+name+" cp", "ru "+name+" cru", "d "+name+" cd", "k "+name+" ck", "bx "+name+" cbx", "_ "+name+" cb")
	}
	// Steps lead to parts of tuples and structs, to those of variants, to what references and a Box lead to.
	holds(t, true, "i use cp.0", "b use cp.1.0", "i use cp.1.1*", "p.1.1* use ci", "p.1.1 use mp.1.1", "x use cs.0", "i use cs.1", "i use csi.0", "i use cen:1.0", "b use cen:1.1", "i use cen:2.0*", "i use co:1.0", "x use cot:1.0", "r*.0 use ci", "rm*.1 use cb", "b2 use cr*", "b2 use crm*", "rs*.0 use crs*.0", "bx* use cob", "b use cbx*:1.0", "i use cl:1.0", "b2 use mr*", "i use cd.0", "rx* use cx", "ru* use my", "c use mrc*", "i use cri*")
	holds(t, false, "i use cp.2", "i use cp.-1", "i use ci.0", "i use cp:0.0", "b use cp.1*", "x use cs.2", "x use cs:0.0", "i use cem.0", "i use cen.0", "i use cen:0.0", "i use cen:1.2", "i use cen:3.0", "i use cen:-1.0", "i use cen:1.-1", "i use co*", "i use cv*", "i use ck*", "i use cx*", "i use cc*", "i use crv*", "i use cr.0", "i use cr*?", "i use cp?", "b use co:1.0", "i use co:0.0", "i use ch*", "s use mrs*.0", "i use cr*.0.0", "si use ms", "y use mru", "i use mi*", "i use cb2:0.0", "i? use ci", "i.0 use ci")
}

// P20: IBin and IUn.
func TestOperators(t *testing.T) {
	for n := api.OAdd; n <= api.ORem; n++ {
		op := "bin#" + string(rune('0'+n))
		holds(t, true, "i "+op+" ci #2", "0 "+op+" #1 mi")
		holds(t, false, "b "+op+" ci #2", "i "+op+" ci", "i "+op+" ci #2 #3", "i "+op+" cb #2", "i "+op+" #2 true", "i "+op+" cb cb", "i "+op, "99 "+op+" ci #2")
	}
	for n := api.OLt; n <= api.OGe; n++ {
		op := "bin#" + []string{"7", "8", "9", "10"}[n-api.OLt]
		holds(t, true, "b "+op+" ci #2")
		holds(t, false, "i "+op+" ci #2", "b "+op+" cb cb", "b "+op+" ci cb", "b "+op+" ci", "b "+op+" ci ci ci")
	}
	for _, op := range []string{"bin#5", "bin#6"} {
		holds(t, true, "b "+op+" ci #2", "b "+op+" cb true")
		holds(t, false, "i "+op+" ci #2", "b "+op+" ci cb", "b "+op+" cb ci", "b "+op+" ce ce", "b "+op+" cb", "b "+op+" cx cx", "b "+op+" ci ci ci", "b "+op)
	}
	holds(t, false, "i bin#11 ci ci", "b bin#12 cb cb", "i bin#-1 ci ci", "i bin#13 ci ci", "b bin#13 ci ci", "i bin#11 ci", "b bin#12 cb")
	holds(t, true, "i un#11 ci", "i un#11 #3", "b un#12 cb", "b un#12 true")
	holds(t, false, "b un#11 cb", "i un#12 ci", "b un#11 ci", "i un#11 cb", "b un#12 ci", "i un#12 cb", "i un#0 ci", "b un#5 cb", "i un#10 ci", "i un#13 ci", "i un#11", "i un#11 ci ci", "b un#12 cb cb", "i un#1 ci", "i un#11 ci #2")
}

// P20: IRef, IMut, ITag, ITuple. What a chapter does not speak of does not count.
func TestReferences(t *testing.T) {
	holds(t, true, "ri ref @i", "rim mut @i", "r ref @b2", "rm mut @b2", "r ref @r*", "rx ref @x", "ru mut @y", "rs ref @s", "rc ref @c", "ri ref @p.1.1*", "ri ref @o:1.0", "ri ref#7/8 @i #5 <i>", "rv ref @v")
	holds(t, false, "ri mut @i", "rim ref @i", "ri ref @b", "ri ref @99", "ri ref @i.0", "i ref @i", "_ ref @i", "rx ref @y", "rx ref @i", "ru ref @y", "99 ref @i", "ri ref @-1", "ri ref @r*?", "rc ref @cm")
	holds(t, true, "i tag @en", "i tag @o", "i tag @ot", "0 tag @l", "i tag @bx*", "i tag @l:1.1*", "i tag#3 @en ci")
	holds(t, false, "b tag @en", "i tag @s", "i tag @i", "i tag @p", "i tag @d", "i tag @99", "i tag @rs", "i tag @em", "99 tag @en", "i tag @x", "i tag @bx")
	holds(t, true, "e tuple", "b2 tuple ci cb", "b2 tuple #1 true", "p.1 tuple cb mp.1.1", "xi tuple cx ci", "e tuple#5/6 <i> @i")
	holds(t, false, "e tuple ci", "b2 tuple ci", "b2 tuple cb ci", "b2 tuple ci cb cb", "b2 tuple ci maybe", "b2 tuple ci c99", "i tuple ci", "p.1 tuple cb cp.1.1", "99 tuple", "xi tuple ci ci", "si tuple ci ci")
}

// P20: IEnd, IJump, IIf, IRet, IPanic; no others.
func TestJumps(t *testing.T) {
	p := lowered(t, text)
	f := p.Fns[fnOf(p, "f")]
	last := len(f.Vars) - 1
	for n, want := range map[int]bool{-1: false, 0: false, 1: true, 2: true, last: true, last + 1: false} {
		if got := judged(p, api.Instr{Op: api.IEnd, N: n}); got != want {
			t.Error("end", n, got)
		}
	}
	// Three instructions stand ahead of Clean.
	for n, want := range map[int]bool{-1: false, 0: true, 1: true, 2: true, 3: false, 4: false} {
		if got := judged(p, api.Instr{Op: api.IJump, N: n}); got != want {
			t.Error("jump", n, got)
		}
		if got := judged(p, api.Instr{Op: api.IIf, N: n, Args: []api.Oper{{Kind: api.OpBool}}}); got != want {
			t.Error("if", n, got)
		}
	}
	holds(t, true, "_ if cb", "_ if#1 mb", "_ ret", "_ panic", "99 ret#7/8 <i> @99 c99", "99 panic#7 c99", "99 end#3 c99", "99 jump c99", "99 if true")
	holds(t, false, "_ if", "_ if ci", "_ if cb cb", "_ if maybe", "_ if c99", "_ resume")
	for _, op := range []int{-1, api.IResume + 1, 77, 1 << 40} {
		if judged(p, api.Instr{Op: op}) {
			t.Error(op)
		}
	}
}
