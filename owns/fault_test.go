package owns

import (
	"strings"
	"testing"

	"holdfast/api"
)

// before and behind stand around the bodies of these tests.
const before, behind = "mod main { struct P { a: Box<int>, q: (Box<int>, int) } struct D { b: Box<int>, p: P } impl Drop for D { fn drop(self: &mut D) { } } enum E { X(Box<int>, int), Y } enum F { X(Box<int>, int), Y } impl Drop for F { fn drop(self: &mut F) { } } struct W<T> { x: T } fn np() -> P { make P { a: boxed(1), q: (boxed(2), 3) } } fn nd() -> D { make D { b: boxed(1), p: np() } } fn eat<T>(x: T) { } fn main(n: int) -> int { ", " } }"

// judged looks what Check says of a text in which a `@` stands at the place of the fault; without one there is none.
func judged(t *testing.T, kind api.Errno, marked string) {
	t.Helper()
	want := api.Fault{}
	if at := strings.Index(marked, "@"); at >= 0 {
		want = api.Fault{Kind: kind, At: at}
	}
	if got := Check(lowered(t, strings.Replace(marked, "@", "", 1))); got != want || (kind == api.OK) != (want.Kind == api.OK) {
		t.Errorf("%q: %v, not %v", marked, got, want)
	}
}

// bodies are bodies of main, each with one fault of a kind, or with none.
func bodies(t *testing.T, kind api.Errno, marked ...string) {
	t.Helper()
	for _, body := range marked {
		judged(t, kind, before+body+behind)
	}
}

// P23: what is not there is not taken.
func TestHoles(t *testing.T) {
	bodies(t, api.ErrHole,
		"let x: int; @x",
		"let x: int; @x + 1",
		"let x: int; eat(@x); n",
		"let x: (int, int); x@.1",
		"let x: &int; @*x",
		"let x: &(int, int); (*x)@.1",
		"let b = boxed(n); eat(b); eat(@b); n",
		"let b = boxed(n); eat(b); @*b",
		"let p = np(); eat(p); eat(p@.a); n",
		"let p = np(); eat(p); p.q@.1",
		"let p = np(); eat(p.a); eat(@p); n",
		"let p = np(); eat(p.q.0); eat(p@.q); n",
		"let p = np(); eat(p.q.0); eat(@p); n",
		"let p = np(); eat(p.q); eat(p.q@.0); n",
		"let p = np(); eat(p.a); @*p.a",
		"let p = np(); eat(p.a); eat(p@.a); n",
		"let t = (np(), boxed(1)); eat(t.0.q.0); eat(t@.0); n",
		"let b = boxed(n); if n > 1 { eat(b); } eat(@b); n",
		"let b = boxed(n); if n > 1 { eat(b); } else { eat(b); } eat(@b); n",
		"let b = boxed(n); if n > 1 { } else { eat(b); } eat(@b); n",
		"let b = boxed(n); while n > 1 { eat(@b); } n",
		"let b = boxed(n); loop { if n > 1 { next; } eat(@b); } n",
		"let b = boxed(n); loop { if n > 1 { eat(b); break; } if n > 2 { break; } } eat(@b); n",
		"let b = boxed(n); n > 1 && { eat(b); true }; eat(@b); n",
		"let b = boxed(n); n > 1 || { eat(b); true }; eat(@b); n",
		"let x: int; while n > 1 { x = 1; break; } @x",
		"let x: int; loop { if n > 1 { break; } x = 1; break; } @x",
		"let x: int; match n { 0 => { x = 1; }, _ => { } } @x",
		"let o = Option::Some(boxed(n)); match o { Option::Some(b) => eat(b), Option::None => { } } eat(@o); n",
		"let o = Option::Some(boxed(n)); eat(o); match o { @Option::Some(b) => 1, Option::None => 2 }",
		"let e = E::X(boxed(n), 1); match e { E::X(b, k) => { }, E::Y => { } } match e { @E::X(_, 1) => 1, _ => 2 }",
		"let e = E::X(boxed(n), 1); match e { E::X(b, _) => { }, E::Y => { } } match e { @E::X(_, k) => k, _ => 2 }",
		"let t = (boxed(n), boxed(n)); match t { (b, _) => eat(b) } match t { (@c, _) => eat(c) } n",
		"let t = (boxed(n), boxed(n)); match t { (b, _) => eat(b) } match t { (_, c) => eat(c) } match t { (_, @c) => 1 }",
		"let b = boxed(n); let f = fn[b]() -> int { 1 }; let g = fn[@b]() -> int { 1 }; n",
		"let b = boxed(n); spawn[b] -> int { 1 }; spawn[@b] -> int { 1 }; n",
		"let b = boxed(n); eat(b); let g = fn[@&b]() -> int { 1 }; n",
		"let x: int; let g = fn[@&x]() -> int { 1 }; n",
		"let f = fn once[n]() -> int { 1 }; f(); @f()",
		"let f = fn[n]() -> int { 1 }; eat(f); @f()",
		"let b = boxed(n); let c = (b, @b); n",
		"let w = make W { x: boxed(n) }; eat(w.x); eat(@w); n",
	)
	bodies(t, api.OK,
		"let x: int; x = 1; x",
		"let b = boxed(n); if n > 1 { eat(b); } n",
		"let b = boxed(n); if n > 1 { eat(b); } else { eat(b); } n",
		"let b = boxed(n); if n > 1 { eat(b); panic; } eat(b); n",
		"let b = boxed(n); if n > 1 { eat(b); return 2; } eat(b); n",
		"let b = boxed(n); loop { eat(b); break; } n",
		"let mut b = boxed(n); while n > 1 { eat(b); b = boxed(2); } eat(b); n",
		"let b = boxed(n); while n > 1 { eat(b); return 1; } eat(b); n",
		"let x: int; loop { if n > 1 { x = 1; break; } } x",
		"let x: int; if n > 1 { x = 1; } else if n > 2 { x = 2; } else { return 1; } x",
		"let p = np(); eat(p.a); eat(p.q); n",
		"let p = np(); eat(p.q.0); eat(p.a); p.q.1",
		"let p = np(); eat(p.a); *p.q.0",
		"let t = (boxed(n), boxed(n)); match t { (b, _) => eat(b) } match t { (_, c) => eat(c) } n",
		"let o = Option::Some(boxed(n)); match o { Option::Some(ref b) => { }, Option::None => { } } eat(o); n",
		"let b = boxed(n); let r = &b; let s = r; **s + **r",
		"let f = fn[n]() -> int { 1 }; f() + f()",
	)
}

// P23: nothing is moved out of what a reference or a box leads to, nor out of what has a Drop.
func TestMoves(t *testing.T) {
	bodies(t, api.ErrMove,
		"let b = boxed(boxed(n)); eat(@*b); n",
		"let b = boxed(n); let r = &b; eat(@*r); n",
		"let mut b = boxed(n); let r = &mut b; eat(@*r); n",
		"let b = boxed(np()); eat((*b)@.a); n",
		"let b = boxed(np()); eat((*b).q@.0); n",
		"let d = nd(); eat(d@.b); n",
		"let d = nd(); eat(d@.p); n",
		"let d = nd(); eat(d.p@.a); n",
		"let t = (nd(), 1); eat(t.0.p.q@.0); n",
		"let r = &nd(); eat((*r)@.b); n",
		"match F::X(boxed(n), 1) { F::X(@b, k) => 1, F::Y => 2 }",
		"let t = (F::X(boxed(n), 1), boxed(n)); match t { (F::X(@b, _), c) => 1, _ => 2 }",
		"let o = boxed(Option::Some(boxed(n))); match *o { Option::Some(@b) => 1, Option::None => 2 }",
		"let b = boxed(n); let f = fn[b]() -> int { eat(@b); 1 }; n",
		"let b = boxed(n); let f = fn mut[b]() -> int { eat(@b); 1 }; n",
		"let b = boxed(n); let f = fn once[&b]() -> int { eat(@*b); 1 }; n",
		"let p = np(); let f = fn[p]() -> int { eat(p@.a); 1 }; n",
	)
	bodies(t, api.OK,
		"let d = nd(); eat(d); n",
		"let t = (nd(), boxed(1)); eat(t.0); eat(t.1); n",
		"let d = nd(); d.p.q.1",
		"let d = nd(); let r = &d.p.a; **r",
		"let b = boxed((n, 2)); (*b).1",
		"let r = &n; let s = *r; s",
		"match F::X(boxed(n), 1) { F::X(_, k) => k, F::Y => 2 }",
		"match F::X(boxed(n), 1) { F::X(ref b, _) => **b, F::Y => 2 }",
		"match F::X(boxed(n), 1) { f => 2 }",
		"let b = boxed(np()); eat(unbox(b).a); n",
		"let b = boxed(n); let f = fn once[b]() -> int { eat(b); 1 }; f()",
		"let p = np(); let f = fn once[p]() -> int { eat(p.q.0); 1 }; f()",
		"let b = boxed(n); spawn[b] -> int { eat(b); 1 }; n",
	)
}

// P23: what is not Mut gets a value once.
func TestAgain(t *testing.T) {
	bodies(t, api.ErrAgain,
		"let x = 1; x @= 2; x",
		"let x: int; x = 1; x @= 2; x",
		"n @= 2; n",
		"let x: int; if n > 1 { x = 1; } x @= 2; x",
		"let x: int; while n > 1 { x @= 1; } n",
		"let b = boxed(n); b @= boxed(2); n",
		"let p = np(); eat(p.a); p @= np(); n",
		"let p = np(); eat(p.a); eat(p.q); p @= np(); n",
		"match n { x => { x @= 2; 1 } }",
		"match Option::Some(boxed(n)) { Option::Some(b) => { b @= boxed(2); 1 }, Option::None => 2 }",
		"let f = fn[](x: int) -> int { x @= 1; 1 }; n",
		"let x: int; loop { if n > 1 { x @= 2; next; } break; } n",
		"let b = boxed(n); if n > 1 { eat(b); } b @= boxed(2); n",
	)
	bodies(t, api.OK,
		"let mut x = 1; x = 2; x",
		"let x: int; x = 1; x",
		"let x: int; if n > 1 { x = 1; } else { x = 2; } x",
		"let x: int; loop { x = 1; break; } x",
		"loop { let x: int; x = 1; if n > 2 { break; } } n",
		"loop { let x = boxed(1); if n > 2 { break; } } n",
		"let b = boxed(n); eat(b); b = boxed(2); eat(b); n",
		"let b: Box<int>; b = boxed(2); eat(b); n",
		"let mut p = np(); eat(p.a); p = np(); eat(p); n",
		"match n { mut x => { x = 2; x } }",
		"let f = fn[](mut x: int) -> int { x = 1; x }; f(2)",
		"let mut b = boxed(n); if n > 1 { eat(b); } b = boxed(2); eat(b); n",
	)
}

// P23: what is not mut is not changed, nor lent to be.
func TestMut(t *testing.T) {
	bodies(t, api.ErrMut,
		"let t = (1, 2); t.0 @= 3; n",
		"let p = np(); p.q.1 @= 3; n",
		"let p = np(); eat(p.a); p.a @= boxed(3); n",
		"let b = boxed(n); *b @= 3; n",
		"let b = boxed(np()); (*b).q.1 @= 3; n",
		"let r = &n; *r @= 3; n",
		"let mut r = &n; *r @= 3; n",
		"let r = &(1, 2); (*r).0 @= 3; n",
		"let mut x = 1; let r = & &mut x; **r @= 3; n",
		"let mut y = 1; let mut x = &y; let r = &mut x; **r @= 3; n",
		"let mut x = 1; let r = &boxed(&mut x); ***r @= 3; n",
		"let x = 1; let r = @&mut x; n",
		"let r = @&mut n; n",
		"let t = (1, 2); let r = @&mut t.0; n",
		"let b = boxed(n); let r = @&mut *b; n",
		"let q = &n; let r = @&mut *q; n",
		"let mut x = 1; let q = & &mut x; let r = @&mut **q; n",
		"let mut x = 1; let q = &boxed(&mut x); let r = @&mut ***q; n",
		"let t = (n, 2); match t { (@ref mut x, _) => 1 }",
		"let x = 1; let f = fn mut[@&mut x]() -> int { 1 }; n",
		"let f = fn mut[]() -> int { 1 }; @f()",
		"let mut x = 1; let f = fn[&mut x]() -> int { *x @= 2; 1 }; n",
		"let x = 1; let f = fn[x]() -> int { x @= 2; 1 }; n",
		"let b = boxed(n); let f = fn[b]() -> int { *b @= 2; 1 }; n",
	)
	bodies(t, api.OK,
		"let mut t = (1, 2); t.0 = 3; n",
		"let mut b = boxed(n); *b = 3; n",
		"let mut b = boxed(np()); (*b).q.1 = 3; (*b).a = boxed(2); n",
		"let mut x = 1; let r = &mut x; *r = 3; n",
		"let mut x = np(); let r = &mut x; (*r).q.1 = 3; (*r).q.0 = boxed(1); let s = &mut (*r).a; **s = 3; n",
		"let mut x = 1; let mut y = &mut x; let r = &mut y; **r = 3; n",
		"let mut x = 1; let b = boxed(&mut x); **b = 3; n",
		"let mut x = 1; let t = (&mut x, 2); *t.0 = 3; n",
		"match (n, 2) { (ref mut x, _) => { *x = 2; 1 } }",
		"let mut x = 1; let f = fn mut[&mut x]() -> int { *x = 2; 1 }; n",
		"let mut f = fn mut[]() -> int { 1 }; f()",
		"(fn mut[]() -> int { 1 })()",
		"let x = 1; let mut f = fn mut[x]() -> int { x = x + 1; x }; f()",
		"let x = 1; let f = fn once[x]() -> int { x = 2; x }; f()",
		"let r = &mut 3; *r = 2; n",
	)
}

// P23: what a place stands in has to be there when it is given a value; what stands at it, or in it, need not.
func TestGivenHoles(t *testing.T) {
	bodies(t, api.ErrHole,
		"let t: (int, int); t.0 @= 1; n",
		"let mut t: (int, int); t.0 @= 1; n",
		"let mut p = np(); eat(p); p.q.1 @= 1; n",
		"let mut p = np(); eat(p); p.a @= boxed(1); n",
		"let mut p = np(); eat(p.q); p.q.1 @= 1; n",
		"let mut p = np(); if n > 1 { eat(p.q); } p.q.0 @= boxed(1); n",
		"let mut b = boxed(n); eat(b); *b @= 1; n",
		"let mut b: Box<int>; *b @= 1; n",
		"let r: &mut int; *r @= 1; n",
		"let mut x = 1; let r = &mut x; eat(r); *r @= 1; n",
		"let mut b = boxed(np()); eat(b); (*b).a @= boxed(1); n",
		"let mut t = (boxed(np()), 1); eat(t.0); (*t.0).q.1 @= 1; n",
		"let mut t = (boxed(np()), 1); eat(t); (*t.0).q.1 @= 1; n",
		"let x: int; let r = @&x; n",
		"let x: int; let r = @&mut x; n",
		"let b = boxed(n); eat(b); let r = @&b; n",
		"let b = boxed(n); eat(b); let r = @&*b; n",
		"let p = np(); eat(p.q.0); let r = @&p; n",
		"let p = np(); eat(p.q.0); let r = @&p.q; n",
		"let p = np(); eat(p.q.0); let r = @&p.q.0; n",
		"let p = np(); eat(p.q); let r = @&p.q.1; n",
		"let mut p = np(); eat(p.q); let r = @&mut p.q.1; n",
		"let mut t = (boxed(n), 1); eat(t.0); let r = @&mut *t.0; n",
		"let b: Box<Box<int>>; eat(@*b); n",
	)
	bodies(t, api.OK,
		"let mut p = np(); eat(p.q); p.q = (boxed(1), 2); eat(p); n",
		"let mut p = np(); eat(p.q.0); p.q = (boxed(1), 2); eat(p); n",
		"let mut p = np(); eat(p.q.0); p.q.0 = boxed(1); eat(p); n",
		"let mut p = np(); eat(p.q.0); p.q.1 = 2; p.q.0 = boxed(1); eat(p); n",
		"let mut p = np(); if n > 1 { eat(p.q); } p.q = (boxed(1), 2); eat(p); n",
		"let mut p = np(); if n > 1 { eat(p); } p = np(); eat(p.q); n",
		"let p = np(); eat(p.a); let r = &p.q; n",
		"let p = np(); eat(p.q.0); let r = &p.q.1; n",
		"let mut t = (boxed(n), boxed(2)); eat(t.0); *t.1 = 3; let r = &mut *t.1; n",
	)
}

// P23: of several faults of one instruction the first one by its order, of several instructions the first one by the code, of several functions the first one by its number.
func TestFirstFault(t *testing.T) {
	bodies(t, api.ErrHole,
		"let x = 1; let y: int; x = @y; n",
		"let t = (1, 2); let y: int; t.0 = @y; n",
		"let y: int; let x = 1; eat(@y); x = 2; n",
		"let r = &n; let y: int; *r = @y; n",
		"let b: Box<Box<int>>; { let c = @*b; } let x = 1; x = 2; n",
	)
	bodies(t, api.ErrMove,
		"let b = boxed(boxed(n)); let t: (Box<int>, int); t.0 = @*b; n",
		"let b = boxed(boxed(n)); let t = (boxed(n), 1); t.0 = @*b; n",
	)
	bodies(t, api.ErrAgain, "let f = fn[]() -> int { let y: int; y }; let x = 1; x @= 2; n")
	judged(t, api.ErrHole, "mod main { fn f(n: int) -> int { let y: int; @y } fn g(n: int) -> int { n = 2; n } fn main(n: int) -> int { n } }")
	judged(t, api.ErrAgain, "mod main { fn f(n: int) -> int { n } fn g(n: int) -> int { n @= 2; n } fn main(n: int) -> int { let y: int; y } }")
	judged(t, api.ErrAgain, "mod main { fn main(n: int) -> int { fn[]() -> int { let y: int; y }; n } trait T { fn t(self: &Self) -> int; } impl T for int { fn t(self: &int) -> int { let x = 1; x @= 2; 1 } } }")
	judged(t, api.ErrHole, "mod main { fn main(n: int) -> int { fn[]() -> int { let y = (1, 2); y.0 = 3; spawn[] -> int { let y: int; @y }; 1 }; n } }")
	judged(t, api.ErrHole, "mod main { fn main(n: int) -> int { fn[]() -> int { spawn[] -> int { let y: int; @y }; 1 }; spawn[] -> int { let y = (1, 2); y.0 = 3; 1 }; n } }")
	judged(t, api.ErrMove, "mod main { fn main(n: int) -> int { n } struct D { b: Box<int> } impl Drop for D { fn drop(self: &mut D) { let b = (*self)@.b; } } }")
}

// P23: type parameters: what is not Copy is moved.
func TestGenericFaults(t *testing.T) {
	const text = "mod main { struct W<T> { x: T } struct V<T> { x: T } impl<T> Drop for V<T> { fn drop(self: &mut V<T>) { } } fn main(n: int) -> int { n } "
	judged(t, api.ErrHole, text+"fn f<T>(x: T) -> (T, T) { (x, @x) } }")
	judged(t, api.OK, text+"fn f<T: Copy>(x: T) -> (T, T) { (x, x) } }")
	judged(t, api.ErrMove, text+"fn f<T>(x: &T) -> T { @*x } }")
	judged(t, api.OK, text+"fn f<T: Copy>(x: &T) -> T { *x } }")
	judged(t, api.OK, text+"fn f<T>(x: W<T>) -> T { x.x } }")
	judged(t, api.ErrMove, text+"fn f<T>(x: V<T>) -> T { x@.x } }")
	judged(t, api.ErrHole, text+"fn f<T>(x: W<(T, T)>) -> (T, W<(T, T)>) { (x.x.0, @x) } }")
	judged(t, api.ErrMut, text+"fn f<T>(x: W<T>, y: T) { x.x @= y; } }")
	judged(t, api.ErrAgain, text+"fn f<T>(x: T, y: T) { x @= y; } }")
}

// P23: instructions by themselves: the order of their operands, of what they take from, of what they give; and that what is moved is not there for the next operand.
func TestFaultsOfInstructions(t *testing.T) {
	p := lowered(t, items)
	for _, c := range []struct {
		kind api.Errno
		code string // the last instruction but one has the fault, or none has one
	}{
		{api.OK, "tu tuple mb mw; 0 use #1"},
		{api.ErrHole, "tu tuple mb mb"},
		{api.ErrHole, "tu tuple mq.0 mq.0"},
		{api.OK, "tu tuple mq.0 mq.1.0; 0 use #1"},
		{api.ErrMove, "tu tuple mr*.0 mb"},
		{api.ErrMove, "tu tuple mb mr*.0"},
		{api.ErrHole, "tu tuple mbb mr*.0"},
		{api.ErrMove, "tu tuple mr*.0 mbb"},
		{api.ErrHole, "j bin#0 mi ci"},
		{api.OK, "j bin#0 ci mi; 0 use #1"},
		{api.ErrHole, "_ end#y; _ if#2 cy"},
		{api.ErrHole, "_ end#y; k use #1; l un#12 my"},
		{api.ErrHole, "_ end#i; k use ci"},
		{api.ErrHole, "_ end#r; k tag @e; ri ref @r*.0"},
		{api.ErrHole, "_ end#e; k tag @e"},
		{api.ErrHole, "_ end#q; rp ref @q"},
		{api.ErrHole, "_ end#p; mp mut @p"},
		{api.ErrMut, "mp mut @p"},
		{api.ErrMut, "mp mut @r*"},
		{api.ErrMut, "mp mut @n**"},
		{api.ErrMut, "mp mut @a**"},
		{api.ErrMut, "mi mut @o*.0"},
		{api.OK, "mp mut @q; 0 use #1"},
		{api.OK, "mp mut @m*; 0 use #1"},
		{api.OK, "mi mut @u*; 0 use #1"},
		{api.ErrHole, "_ ret"},
		{api.OK, "0 use #1"},
		{api.ErrAgain, "i use #1"},
		{api.OK, "i bin#0 mi #1; 0 use #1"},
		{api.OK, "j use #1; 0 use #1"},
		{api.ErrAgain, "k use #1; k put #1"},
		{api.ErrAgain, "b put mw"},
		{api.OK, "b put mb; 0 use #1"},
		{api.OK, "w put mb; 0 use #1"},
		{api.ErrMut, "p.0 use mb"},
		{api.ErrMut, "p.0 put mp.0"},
		{api.OK, "q.0 put mp.0; 0 use #1"},
		{api.ErrHole, "s.0 use mb"},
		{api.ErrHole, "ss.1.1 use #1"},
		{api.ErrHole, "q.1.0 put mq.1.0; h use mq; q.1.1 use #1"},
		{api.OK, "w use mq.1.0; q.1.1 use #1; 0 use #1"},
		{api.ErrHole, "_ end#m; m*.0 use mb"},
		{api.ErrMut, "r*.0 use mb"},
		{api.ErrMut, "n**.0 use mb"},
		{api.ErrMut, "a**.0 use mb"},
		{api.OK, "m*.0 use mb; m*.1.1 use #2; 0 use #1"},
		{api.OK, "u* use mb; 0 use #1"},
		{api.ErrMut, "o*.0 use mb"},
		{api.ErrMove, "k call#EAT mu* ci"},
		{api.ErrHole, "k call#EAT mb ci; k call#EAT mb ci"},
		{api.ErrAgain, "k call#EAT mb ci; k call#EAT mw ci"},
		{api.ErrHole, "th spawn#BUD mb; th spawn#BUD mb"},
		{api.ErrHole, "_ end#rc; k invoke#0 crc ci"},
		{api.ErrMove, "w use mo*.1.0"},
		{api.ErrMove, "w use md.0"},
		{api.ErrMove, "w use mp.2.0"},
		{api.OK, "w use mp.1.0; dd use mp.2; 0 use #1"},
		{api.ErrMove, "w use me:2.0.1.2.0"},
		{api.OK, "w use me:2.0.1.0; 0 use #1"},
	} {
		eat, thread := "", ""
		for n, f := range p.Fns {
			if f.Name == "eat" {
				eat = digits(n)
			}
			if f.Kind == api.FnSpawn {
				thread = digits(n)
			}
		}
		code := strings.Split(strings.NewReplacer("EAT", eat, "BUD", thread).Replace(c.code), "; ")
		want := api.Fault{}
		if c.kind != api.OK {
			want = api.Fault{Kind: c.kind, At: 100 + len(code) - 1}
		}
		if got := Check(coded(t, p, append(code, "_ ret")...)); got != want {
			t.Errorf("%s: %v, not %v", c.code, got, want)
		}
	}
}

func digits(n int) string {
	if n < 10 {
		return string(rune('0' + n))
	}
	return digits(n/10) + digits(n%10)
}
