package lower

import (
	"strings"
	"testing"
)

// inMain is a text with the items of module main that the tests speak of, and more of them.
func inMain(items string) string {
	return "mod main { enum E { A, B(int, bool), C(Box<int>) } struct S<T> { a: T, b: int } trait T1 { fn t(self: &Self, x: int) -> int; fn u(self: Self) -> Self; } " + items + " fn main(n: int) -> int { n } }"
}

// code is what a function must be: which one of the items' functions, its locals, its code ahead of Clean.
type code struct {
	items      string
	fn         int
	vars, told string
}

// holdCodes holds functions against what they must be. Behind Clean all of them are the same.
func holdCodes(t *testing.T, codes []code) {
	t.Helper()
	for _, c := range codes {
		text := inMain(c.items)
		p := lowered(t, text)
		f := p.Fns[c.fn]
		if got := tellVars(f.Vars); got != c.vars {
			t.Errorf("%q:\n%s\nnot\n%s", c.items, got, c.vars)
		}
		if got := strings.Join(tellCode(t, text, f), "; "); got != c.told {
			t.Errorf("%q:\n%s\nnot\n%s", c.items, got, c.told)
		}
		holdCode(t, c.items, p)
	}
}

// P19: the code of each kind of node that says where to go on, and of operators and places.
func TestControl(t *testing.T) {
	holdCodes(t, []code{
		// Statements go nowhere, or into temporaries of their own; what the block gives goes into local 0.
		{"fn f(n: int) -> int { n; 5; true; (n, 1, false); { n } }", 0,
			"mut :int, n:int, mut :int, mut :int, mut :bool, mut :(int, int, bool), mut :int",
			"2=use c1 @n; end2 @n; 3=use #5 @5; end3 @5; 4=use #true @true; end4 @true; 6=use c1 @n; 5=tuple m6 #1 #false @(; end6 @(; end5 @(; 0=use c1 @n; end1 @fn; ret @fn"},
		// Operators, by their signs.
		{"fn f(n: int) -> int { 0 - -n }", 0,
			"mut :int, n:int, mut :int, mut :int",
			"3=use c1 @n; 2=un11 m3 @-; 0=bin1 #0 m2 @-; end3 @-; end2 @-; end1 @fn; ret @fn"},
		{"fn f(n: int) { (n + 1, n - 2, n * 3, n / 4, n % 5, n == 6, n != 7, n < 8, n <= 9, n > 10, n >= 11, !true, -12); }", 0,
			"mut :(), n:int, mut :(int, int, int, int, int, bool, bool, bool, bool, bool, bool, bool, int), mut :int, mut :int, mut :int, mut :int, mut :int, mut :int, mut :int, mut :int, mut :int, mut :int, mut :bool, mut :int, mut :bool, mut :int, mut :bool, mut :int, mut :bool, mut :int, mut :bool, mut :int, mut :bool, mut :int, mut :bool, mut :int",
			"4=use c1 @n; 3=bin m4 #1 @+; 6=use c1 @n; 5=bin1 m6 #2 @-; 8=use c1 @n; 7=bin2 m8 #3 @*; 10=use c1 @n; 9=bin3 m10 #4 @/; 12=use c1 @n; 11=bin4 m12 #5 @%; 14=use c1 @n; 13=bin5 m14 #6 @==; 16=use c1 @n; 15=bin6 m16 #7 @!=; 18=use c1 @n; 17=bin7 m18 #8 @<; 20=use c1 @n; 19=bin8 m20 #9 @<=; 22=use c1 @n; 21=bin9 m22 #10 @>; 24=use c1 @n; 23=bin10 m24 #11 @>=; 25=un12 #true @!; 26=un11 #12 @-; 2=tuple m3 m5 m7 m9 m11 m13 m15 m17 m19 m21 m23 m25 m26 @(; end26 @(; end25 @(; end24 @(; end23 @(; end22 @(; end21 @(; end20 @(; end19 @(; end18 @(; end17 @(; end16 @(; end15 @(; end14 @(; end13 @(; end12 @(; end11 @(; end10 @(; end9 @(; end8 @(; end7 @(; end6 @(; end5 @(; end4 @(; end3 @(; end2 @(; 0=tuple @{; end1 @fn; ret @fn"},
		// A variable is opened ahead of its value, and ends with its block; one of the same name is another.
		{"fn f(n: int) -> int { let x: int; { let x = (n, true); let y = x; } x = 3; let x = x; x }", 0,
			"mut :int, n:int, x:int, x:(int, bool), mut :int, y:(int, bool), x:int",
			"4=use c1 @n; 3=tuple m4 #true @(; end4 @let; 5=use c3 @x; end5 @{; end3 @{; 2=use #3 @=; 6=use c2 @x; 0=use c6 @x; end6 @{; end2 @{; end1 @fn; ret @fn"},
		// Places are taken from: copied, or moved; what is no place becomes one in a temporary.
		{"fn f(p: (int, (bool, Box<int>)), s: S<Box<int>>) -> int { let q = p.1; let b = s.a; p.0; *q.1; *boxed(*b); (1, 2).1 }", 0,
			"mut :int, p:(int, (bool, Box<int>)), s:D2<Box<int>>, q:(bool, Box<int>), b:Box<int>, mut :int, mut :int, mut :int, mut :Box<int>, mut :int, mut :(int, int)",
			"3=use m1.1 @.; 4=use m2.0 @.; 5=use c1.0 @.; end5 @.; 6=use c3.1* @*; end6 @*; 9=use c4* @*; 8=lib<int> m9 @(; 7=use c8* @*; end9 @*; end8 @*; end7 @*; 10=tuple #1 #2 @(; 0=use c10.1 @.; end10 @.; end4 @{; end3 @{; end2 @fn; end1 @fn; ret @fn"},
		{"fn f<T, U: Copy>(t: T, u: U, v: (U, U), w: (U, T), o: Option<U>, x: Option<T>) { let a = t; let b = u; let c = v; let d = w; let e = o; let g = x; }", 0,
			"mut :(), t:T0, u:T1, v:(T1, T1), w:(T1, T0), o:D0<T1>, x:D0<T0>, a:T0, b:T1, c:(T1, T1), d:(T1, T0), e:D0<T1>, g:D0<T0>",
			"7=use m1 @t; 8=use c2 @u; 9=use c3 @v; 10=use m4 @w; 11=use c5 @o; 12=use m6 @x; 0=tuple @{; end12 @{; end11 @{; end10 @{; end9 @{; end8 @{; end7 @{; end6 @fn; end5 @fn; end4 @fn; end3 @fn; end2 @fn; end1 @fn; ret @fn"},
		// References: to places, and to temporaries.
		{"fn f(p: &mut (int, bool)) { let a = &*p; let b = &mut (*p).1; let c = &mut 5; let d = &(*a).0; &true; }", 0,
			"mut :(), p:&mut'1 (int, bool), a:&'0 (int, bool), b:&mut'0 bool, c:&mut'0 int, mut :int, d:&'0 int, mut :&'0 bool, mut :bool",
			"2=ref 1* @&; 3=mut 1*.1 @&; 5=use #5 @5; 4=mut 5 @&; end5 @let; 6=ref 2*.0 @&; 8=use #true @true; 7=ref 8 @&; end8 @&; end7 @&; 0=tuple @{; end6 @{; end4 @{; end3 @{; end2 @{; end1 @fn; ret @fn"},
		// What owns something is dropped when something else is put in its place.
		{"fn f<T, U: Copy>(a: int, b: Box<int>, t: &mut T, x: T, u: &mut U, y: U, g: &mut (int, fn() -> int), h: fn() -> int) { a = 1; b = boxed(2); *b = 3; *t = x; *u = y; (*g).0 = 4; (*g).1 = h; }", 0,
			"mut :(), a:int, b:Box<int>, t:&mut'1 T0, x:T0, u:&mut'2 T1, y:T1, g:&mut'3 (int, fn0'4(int)), h:fn0'5(int), mut :Box<int>, mut :T0, mut :T1, mut :fn0'0(int)",
			"1=use #1 @=; 9=lib<int> #2 @(; 2=put m9 @=; end9 @=; 2*=use #3 @=; 10=use m4 @x; 3*=put m10 @=; end10 @=; 11=use c6 @y; 5*=use m11 @=; end11 @=; 7*.0=use #4 @=; 12=use m8 @h; 7*.1=put m12 @=; end12 @=; 0=tuple @{; end8 @fn; end7 @fn; end6 @fn; end5 @fn; end4 @fn; end3 @fn; end2 @fn; end1 @fn; ret @fn"},
		{"fn f(a: int) { let d = (a = a + 1); }", 0,
			"mut :(), a:int, d:(), mut :int, mut :int",
			"4=use c1 @a; 3=bin m4 #1 @+; 1=use m3 @=; 2=tuple @=; end4 @let; end3 @let; 0=tuple @{; end2 @{; end1 @fn; ret @fn"},
		// Choices.
		{"fn f(n: int) -> int { if n < 3 { n; 1 } else { 2 } }", 0,
			"mut :int, n:int, mut :bool, mut :int, mut :int",
			"3=use c1 @n; 2=bin7 m3 #3 @<; end3 @<; if8 m2 @<; 4=use c1 @n; end4 @n; 0=use #1 @1; jump9 @if; 0=use #2 @2; end2 @if; end1 @fn; ret @fn"},
		{"fn f(n: int) -> int { if n == 1 { n; } 4 }", 0,
			"mut :int, n:int, mut :bool, mut :int, mut :int",
			"3=use c1 @n; 2=bin5 m3 #1 @==; end3 @==; if6 m2 @==; 4=use c1 @n; end4 @n; end2 @if; 0=use #4 @4; end1 @fn; ret @fn"},
		{"fn f(n: int) { let x = if n == 1 { n; }; if n == 2 { 3 } else if true { 4 } else { n }; }", 0,
			"mut :(), n:int, x:(), mut :bool, mut :int, mut :int, mut :bool, mut :int, mut :int, mut :bool, mut :int, mut :int",
			"4=use c1 @n; 3=bin5 m4 #1 @==; end4 @==; if6 m3 @==; 5=use c1 @n; end5 @n; 2=tuple @if; end3 @let; 7=use c1 @n; 6=bin5 m7 #2 @==; end7 @==; if15 m6 @==; 8=use #3 @3; end8 @3; jump22 @if; 9=use #true @true; if20 m9 @true; 10=use #4 @4; end10 @4; jump22 @if; 11=use c1 @n; end11 @n; end9 @if; end6 @if; 0=tuple @{; end2 @{; end1 @fn; ret @fn"},
		// Loops. A way out of a loop ends what was opened since it began.
		{"fn f(n: int) { while n > 1 { let b = boxed(n); if *b == 2 { break; } if *b == 3 { let c = 4; next; } } }", 0,
			"mut :(), n:int, mut :bool, mut :int, b:Box<int>, mut :int, mut :bool, mut :int, mut :bool, mut :int, c:int",
			"3=use c1 @n; 2=bin9 m3 #1 @>; end3 @>; if27 m2 @>; 5=use c1 @n; 4=lib<int> m5 @(; end5 @let; 7=use c4* @*; 6=bin5 m7 #2 @==; end7 @==; if14 m6 @==; end6 @break; end4 @break; jump27 @break; end6 @if; 9=use c4* @*; 8=bin5 m9 #3 @==; end9 @==; if24 m8 @==; 10=use #4 @4; end10 @next; end8 @next; end4 @next; jump @next; end8 @if; end4 @{; jump @while; 0=tuple @while; end2 @while; end1 @fn; ret @fn"},
		{"fn f(n: int) { let x = loop { let a = n; loop { let b = a; if b == 1 { break } else { next } } if a == 2 { break; } }; }", 0,
			"mut :(), n:int, x:(), a:int, b:int, mut :bool, mut :int, mut :bool, mut :int",
			"3=use c1 @n; 4=use c3 @a; 6=use c4 @b; 5=bin5 m6 #1 @==; end6 @==; if9 m5 @==; end5 @break; end4 @break; jump12 @break; end5 @next; end4 @next; jump1 @next; 8=use c3 @a; 7=bin5 m8 #2 @==; end8 @==; if19 m7 @==; end7 @break; end3 @break; jump22 @break; end7 @if; end3 @{; jump @loop; 2=tuple @loop; 0=tuple @{; end2 @{; end1 @fn; ret @fn"},
		{"fn f(n: int) { loop { while { if n == 1 { break; } true } { next; } } }", 0,
			"mut :(), n:int, mut :bool, mut :bool, mut :int",
			"4=use c1 @n; 3=bin5 m4 #1 @==; end4 @==; if7 m3 @==; end3 @break; end2 @break; jump13 @break; end3 @if; 2=use #true @true; if11 m2 @{; jump @next; end2 @while; jump @loop; 0=tuple @loop; end1 @fn; ret @fn"},
		// Returns and panics. What is open is then what was open ahead of them.
		{"fn f(n: int) -> (int, bool) { let a = n; if n == 1 { return (a, true); } (n, n == 2 || return (3, { let b = boxed(4); *b == n })) }", 0,
			"mut :(int, bool), n:int, a:int, mut :bool, mut :int, mut :int, mut :int, mut :bool, mut :bool, mut :int, mut :bool, b:Box<int>, mut :int, mut :int",
			"2=use c1 @n; 4=use c1 @n; 3=bin5 m4 #1 @==; end4 @==; if12 m3 @==; 5=use c2 @a; 0=tuple m5 #true @(; end5 @return; end3 @return; end2 @return; end1 @return; ret @return; end3 @if; 6=use c1 @n; 9=use c1 @n; 8=bin5 m9 #2 @==; if19 m8 @||; 7=use #true @||; jump35 @||; 11=lib<int> #4 @(; 12=use c11* @*; 13=use c1 @n; 10=bin5 m12 m13 @==; end13 @==; end12 @==; end11 @{; 0=tuple #3 m10 @(; end10 @return; end9 @return; end8 @return; end7 @return; end6 @return; end2 @return; end1 @return; ret @return; 0=tuple m6 m7 @(; end9 @(; end8 @(; end7 @(; end6 @(; end2 @{; end1 @fn; ret @fn"},
		{"fn f(n: int) { if n == 1 { return; } else { panic } }", 0,
			"mut :(), n:int, mut :bool, mut :int",
			"3=use c1 @n; 2=bin5 m3 #1 @==; end3 @==; if8 m2 @==; 0=tuple @return; end2 @return; end1 @return; ret @return; panic @panic"},
		// Nothing is made where nothing can come about.
		{"fn f(n: int) -> int { return n + 1; let x = 2; loop { break; } x }", 0,
			"mut :int, n:int, mut :int",
			"2=use c1 @n; 0=bin m2 #1 @+; end2 @return; end1 @return; ret @return"},
		{"fn f(n: int) -> int { (n, return 1, boxed(n), { let y = 2; y }); 3 }", 0,
			"mut :int, n:int, mut :(int, (), Box<int>, int), mut :int, mut :()",
			"3=use c1 @n; 0=use #1 @1; end4 @return; end3 @return; end2 @return; end1 @return; ret @return"},
		{"fn f(n: int) -> int { loop { n; next; n; break; } n }", 0,
			"mut :int, n:int, mut :int",
			"2=use c1 @n; end2 @n; jump @next"},
		{"fn f(n: int) -> int { let x: int = panic; x }", 0,
			"mut :int, n:int, x:int",
			"panic @panic"},
		{"fn f(n: int) -> int { if return 5 { 1 } else { 2 } }", 0,
			"mut :int, n:int, mut :()",
			"0=use #5 @5; end2 @return; end1 @return; ret @return"},
		{"fn f(n: int) -> int { while panic { n; } n }", 0,
			"mut :int, n:int, mut :()",
			"panic @panic"},
		{"fn f(n: int) -> int { (return 1) && true; n }", 0,
			"mut :int, n:int, mut :bool, mut :()",
			"0=use #1 @1; end3 @return; end2 @return; end1 @return; ret @return"},
		{"fn f(n: int) -> int { match n { 0 => return 7, _ => panic } }", 0,
			"mut :int, n:int, mut :bool",
			"2=bin5 c1 #0 @0; if6 m2 @0; 0=use #7 @7; end2 @return; end1 @return; ret @return; panic @panic"},
		// And, or.
		{"fn f(a: bool, b: bool) -> bool { a && b }", 0,
			"mut :bool, a:bool, b:bool, mut :bool",
			"3=use c1 @a; if4 m3 @&&; 0=use c2 @b; jump5 @&&; 0=use #false @&&; end3 @&&; end2 @fn; end1 @fn; ret @fn"},
		{"fn f(a: bool, b: bool) -> bool { !a || a == b }", 0,
			"mut :bool, a:bool, b:bool, mut :bool, mut :bool, mut :bool, mut :bool",
			"4=use c1 @a; 3=un12 m4 @!; if5 m3 @||; 0=use #true @||; jump8 @||; 5=use c1 @a; 6=use c2 @b; 0=bin5 m5 m6 @==; end6 @||; end5 @||; end4 @||; end3 @||; end2 @fn; end1 @fn; ret @fn"},
		{"fn f(a: bool) { a && return; a || panic; }", 0,
			"mut :(), a:bool, mut :bool, mut :bool, mut :bool, mut :bool",
			"3=use c1 @a; if7 m3 @&&; 0=tuple @return; end3 @return; end2 @return; end1 @return; ret @return; 2=use #false @&&; end3 @&&; end2 @&&; 5=use c1 @a; if14 m5 @||; 4=use #true @||; jump15 @||; panic @panic; end5 @||; end4 @||; 0=tuple @{; end1 @fn; ret @fn"},
	})
}

// P19: the code of calls, closures and matches.
func TestCalls(t *testing.T) {
	holdCodes(t, []code{
		// What is called, made and told, with its types, its operands from left to right.
		{"fn g<T, U>(t: T, u: U) -> U { u } fn f(n: int) { g(n, true); g::<(int, bool), Option<bool>>((n, true), Option::None); out(n); vec::<Box<int>>(); }", 1,
			"mut :(), n:int, mut :bool, mut :int, mut :D0<bool>, mut :(int, bool), mut :int, mut :D0<bool>, mut :(), mut :int, mut :Vec<Box<int>>",
			"3=use c1 @n; 2=call<int, bool> m3 #true @(; end3 @(; end2 @(; 6=use c1 @n; 5=tuple m6 #true @(; 7=make<bool> @Option; 4=call<(int, bool), D0<bool>> m5 m7 @(; end7 @(; end6 @(; end5 @(; end4 @(; 9=use c1 @n; 8=lib40 m9 @(; end9 @(; end8 @(; 10=lib2<Box<int>> @(; end10 @(; 0=tuple @{; end1 @fn; ret @fn"},
		{"fn f<T: T1>(t: T) -> T { T1::t(&t, 3); T1::u(t) }", 0,
			"mut :T0, t:T0, mut :int, mut :&'0 T0, mut :T0",
			"3=ref 1 @&; 2=method4<T0> m3 #3 @(; end3 @(; end2 @(; 4=use m1 @t; 0=method4/1<T0> m4 @(; end4 @(; end1 @fn; ret @fn"},
		{"fn f(n: int) { E::A; E::B(n, n == 1); E::C(boxed(n)); Option::Some(n); }", 0,
			"mut :(), n:int, mut :D1<>, mut :D1<>, mut :int, mut :bool, mut :int, mut :D1<>, mut :Box<int>, mut :int, mut :D0<int>, mut :int",
			"2=make1 @E; end2 @E; 4=use c1 @n; 6=use c1 @n; 5=bin5 m6 #1 @==; 3=make1/1 m4 m5 @(; end6 @(; end5 @(; end4 @(; end3 @(; 9=use c1 @n; 8=lib<int> m9 @(; 7=make1/2 m8 @(; end9 @(; end8 @(; end7 @(; 11=use c1 @n; 10=make/1<int> m11 @(; end11 @(; end10 @(; 0=tuple @{; end1 @fn; ret @fn"},
		{"fn f<T>(t: T) -> S<T> { make S { b: len(&vec::<T>()) + 2, a: t } }", 0,
			"mut :D2<T0>, t:T0, mut :int, mut :int, mut :&'0 Vec<T0>, mut :Vec<T0>, mut :T0",
			"5=lib2<T0> @(; 4=ref 5 @&; 3=lib5<T0> m4 @(; 2=bin m3 #2 @+; 6=use m1 @t; 0=make2<T0> m6 m2 @make; end6 @make; end5 @make; end4 @make; end3 @make; end2 @make; end1 @fn; ret @fn"},
		{"fn f<T>(t: T, n: int) -> S<T> { make S { a: t, b: n } }", 0,
			"mut :D2<T0>, t:T0, n:int, mut :T0, mut :int",
			"3=use m1 @t; 4=use c2 @n; 0=make2<T0> m3 m4 @make; end4 @make; end3 @make; end2 @fn; end1 @fn; ret @fn"},
		// Closures and threads capture; a reference is made at the capture.
		{"fn f<T: Send + Sync, U>(t: T, u: U, v: &mut int) { let c = fn[t, &u, &mut v](x: int) -> int { x }; }", 0,
			"mut :(), t:T0, u:T1, v:&mut'1 int, c:fn0'0(int, int), mut :T0, mut :&'0 T1, mut :&mut'0 &mut'0 int",
			"5=use m1 @t; 6=ref 2 @&; 7=mut 3 @&; 4=clos2<T0, T1> m5 m6 m7 @fn; end7 @let; end6 @let; end5 @let; 0=tuple @{; end4 @{; end3 @fn; end2 @fn; end1 @fn; ret @fn"},
		{"fn f<T: Send + Sync, U>(t: T, u: U, v: &mut int) { let c = fn[t, &u, &mut v](x: int) -> int { x }; }", 2,
			"mut :int, mut :&'1 (T0, &'2 T1, &mut'3 &mut'4 int), x:int",
			"0=use c2 @x; end2 @fn; end1 @fn; ret @fn"},
		{"fn f<T: Send + Sync>(t: T, u: &'static T, n: int) { spawn[t, &u, &mut n] -> int { 1 }; }", 0,
			"mut :(), t:T0, u:&'-1 T0, n:int, mut :Handle<int>, mut :T0, mut :&'0 &'0 T0, mut :&mut'0 int",
			"5=use m1 @t; 6=ref 2 @&; 7=mut 3 @&; 4=spawn2<T0> m5 m6 m7 @spawn; end7 @spawn; end6 @spawn; end5 @spawn; end4 @spawn; 0=tuple @{; end3 @fn; end2 @fn; end1 @fn; ret @fn"},
		{"fn f<T: Send + Sync>(t: T, u: &'static T, n: int) { spawn[t, &u, &mut n] -> int { 1 }; }", 2,
			"mut :int, mut :(T0, &'1 &'2 T0, &mut'3 int)",
			"0=use #1 @1; end1 @spawn; ret @spawn"},
		// What is captured is found in local 1, or behind it.
		{"fn f(n: int, b: Box<int>) { let c = fn[n, &b](x: int) -> int { x + n + **b }; }", 0,
			"mut :(), n:int, b:Box<int>, c:fn0'0(int, int), mut :int, mut :&'0 Box<int>",
			"4=use c1 @n; 5=ref 2 @&; 3=clos2 m4 m5 @fn; end5 @let; end4 @let; 0=tuple @{; end3 @{; end2 @fn; end1 @fn; ret @fn"},
		{"fn f(n: int, b: Box<int>) { let c = fn[n, &b](x: int) -> int { x + n + **b }; }", 2,
			"mut :int, mut :&'1 (int, &'2 Box<int>), x:int, mut :int, mut :int, mut :int, mut :int",
			"4=use c2 @x; 5=use c1*.0 @n; 3=bin m4 m5 @+; 6=use c1*.1** @*; 0=bin m3 m6 @+; end6 @+; end5 @+; end4 @+; end3 @+; end2 @fn; end1 @fn; ret @fn"},
		{"fn f(n: int, b: Box<int>) { let c = fn mut[n, b](x: int) { n = x; b = boxed(x); }; }", 0,
			"mut :(), n:int, b:Box<int>, c:fn1'0(int, ()), mut :int, mut :Box<int>",
			"4=use c1 @n; 5=use m2 @b; 3=clos2 m4 m5 @fn; end5 @let; end4 @let; 0=tuple @{; end3 @{; end2 @fn; end1 @fn; ret @fn"},
		{"fn f(n: int, b: Box<int>) { let c = fn mut[n, b](x: int) { n = x; b = boxed(x); }; }", 2,
			"mut :(), mut :&mut'1 (int, Box<int>), x:int, mut :int, mut :Box<int>, mut :int",
			"3=use c2 @x; 1*.0=use m3 @=; end3 @=; 5=use c2 @x; 4=lib<int> m5 @(; 1*.1=put m4 @=; end5 @=; end4 @=; 0=tuple @{; end2 @fn; end1 @fn; ret @fn"},
		{"fn f(n: int, b: Box<int>) { let c = fn once[n, b]() -> Box<int> { n; b }; }", 0,
			"mut :(), n:int, b:Box<int>, c:fn2'0(Box<int>), mut :int, mut :Box<int>",
			"4=use c1 @n; 5=use m2 @b; 3=clos2 m4 m5 @fn; end5 @let; end4 @let; 0=tuple @{; end3 @{; end2 @fn; end1 @fn; ret @fn"},
		{"fn f(n: int, b: Box<int>) { let c = fn once[n, b]() -> Box<int> { n; b }; }", 2,
			"mut :Box<int>, mut :(int, Box<int>), mut :int",
			"2=use c1.0 @n; end2 @n; 0=use m1.1 @b; end1 @fn; ret @fn"},
		{"fn f(n: int, b: Box<int>) { let c = spawn[n, b] -> Box<int> { let d = fn[&n, &mut b]() -> int { *n }; b }; }", 0,
			"mut :(), n:int, b:Box<int>, c:Handle<Box<int>>, mut :int, mut :Box<int>",
			"4=use c1 @n; 5=use m2 @b; 3=spawn3 m4 m5 @spawn; end5 @let; end4 @let; 0=tuple @{; end3 @{; end2 @fn; end1 @fn; ret @fn"},
		{"fn f(n: int, b: Box<int>) { let c = spawn[n, b] -> Box<int> { let d = fn[&n, &mut b]() -> int { *n }; b }; }", 2,
			"mut :int, mut :&'1 (&'2 int, &mut'3 Box<int>)",
			"0=use c1*.0* @*; end1 @fn; ret @fn"},
		{"fn f(n: int, b: Box<int>) { let c = spawn[n, b] -> Box<int> { let d = fn[&n, &mut b]() -> int { *n }; b }; }", 3,
			"mut :Box<int>, mut :(int, Box<int>), d:fn0'0(int), mut :&'0 int, mut :&mut'0 Box<int>",
			"3=ref 1.0 @&; 4=mut 1.1 @&; 2=clos2 m3 m4 @fn; end4 @let; end3 @let; 0=use m1.1 @b; end2 @{; end1 @spawn; ret @spawn"},
		// A closure is called by a reference, or itself.
		{"fn f(c: fn(int) -> bool, d: fn mut() -> int, e: fn once(int, int) -> bool) -> bool { c(1); d(); e(2, d()) }", 0,
			"mut :bool, c:fn0'1(int, bool), d:fn1'2(int), e:fn2'3(int, int, bool), mut :bool, mut :&'0 fn0'0(int, bool), mut :int, mut :&mut'0 fn1'0(int), mut :fn2'0(int, int, bool), mut :int, mut :&mut'0 fn1'0(int)",
			"5=ref 1 @c; 4=invoke m5 #1 @(; end5 @(; end4 @(; 7=mut 2 @d; 6=invoke1 m7 @(; end7 @(; end6 @(; 8=use m3 @e; 10=mut 2 @d; 9=invoke1 m10 @(; 0=invoke2 m8 #2 m9 @(; end10 @(; end9 @(; end8 @(; end3 @fn; end2 @fn; end1 @fn; ret @fn"},
		{"fn f(c: (int, fn() -> int), d: &mut fn mut(int) -> bool) { c.1(); (*d)(3); (fn[]() { })(); (fn once[]() { })(); }", 0,
			"mut :(), c:(int, fn0'1(int)), d:&mut'2 fn1'3(int, bool), mut :int, mut :&'0 fn0'0(int), mut :bool, mut :&mut'0 fn1'0(int, bool), mut :(), mut :fn0'0(()), mut :&'0 fn0'0(()), mut :(), mut :fn2'0(())",
			"4=ref 1.1 @.; 3=invoke m4 @(; end4 @(; end3 @(; 6=mut 2* @*; 5=invoke1 m6 #3 @(; end6 @(; end5 @(; 8=clos2 @fn; 9=ref 8 @fn; 7=invoke m9 @(; end9 @(; end8 @(; end7 @(; 11=clos3 @fn; 10=invoke2 m11 @(; end11 @(; end10 @(; 0=tuple @{; end2 @fn; end1 @fn; ret @fn"},
		{"fn f(c: (int, fn() -> int), d: &mut fn mut(int) -> bool) { c.1(); (*d)(3); (fn[]() { })(); (fn once[]() { })(); }", 2,
			"mut :(), mut :&'1 ()",
			"0=tuple @{; end1 @fn; ret @fn"},
		{"fn f(c: (int, fn() -> int), d: &mut fn mut(int) -> bool) { c.1(); (*d)(3); (fn[]() { })(); (fn once[]() { })(); }", 3,
			"mut :(), mut :()",
			"0=tuple @{; end1 @fn; ret @fn"},
		// A match: the tests of an arm lead to the next one if they fail, then its names come.
		{"fn f(n: int) -> bool { match n { 1 => true, -2 => false, _ => n == 3 } }", 0,
			"mut :bool, n:int, mut :bool, mut :bool, mut :int",
			"2=bin5 c1 #1 @1; if5 m2 @1; 0=use #true @true; end2 @1; jump14 @1; 3=bin5 c1 #-2 @-; if10 m3 @-; 0=use #false @false; end3 @-; jump14 @-; 4=use c1 @n; 0=bin5 m4 #3 @==; end4 @_; jump14 @_; end1 @fn; ret @fn"},
		{"fn f(b: bool) { match b { true => { }, false => { b; } } }", 0,
			"mut :(), b:bool, mut :bool, mut :bool, mut :bool",
			"2=bin5 c1 #true @true; if5 m2 @true; 0=tuple @{; end2 @true; jump13 @true; 3=bin5 c1 #false @false; if12 m3 @false; 4=use c1 @b; end4 @b; 0=tuple @{; end3 @false; jump13 @false; panic @match; end1 @fn; ret @fn"},
		{"fn f(e: E) -> int { match e { E::B(7, true) => 1, E::B(mut x, false) => { x = x + 1; x }, E::C(b) => *b, E::B(ref y, _) => *y, E::A => panic } }", 0,
			"mut :int, e:D1<>, mut :int, mut :bool, mut :bool, mut :bool, mut :int, mut :bool, mut :bool, mut x:int, mut :int, mut :int, mut :int, mut :bool, b:Box<int>, mut :int, mut :bool, y:&'0 int, mut :int, mut :bool",
			"2=tag 1 @E; 3=bin5 m2 #1 @E; if13 m3 @E; 4=bin5 c1:1.0 #7 @7; if13 m4 @7; 5=bin5 c1:1.1 #true @true; if13 m5 @true; 0=use #1 @1; end5 @E; end4 @E; end3 @E; end2 @E; jump53 @E; 6=tag 1 @E; 7=bin5 m6 #1 @E; if30 m7 @E; 8=bin5 c1:1.1 #false @false; if30 m8 @false; 9=use c1:1.0 @mut; 11=use c9 @x; 10=bin m11 #1 @+; 9=use m10 @=; end11 @=; end10 @=; 0=use c9 @x; end9 @E; end8 @E; end7 @E; end6 @E; jump53 @E; 12=tag 1 @E; 13=bin5 m12 #2 @E; if39 m13 @E; 14=use m1:2.0 @b; 0=use c14* @*; end14 @E; end13 @E; end12 @E; jump53 @E; 15=tag 1 @E; 16=bin5 m15 #1 @E; if48 m16 @E; 17=ref 1:1.0 @ref; 0=use c17* @*; end17 @E; end16 @E; end15 @E; jump53 @E; 18=tag 1 @E; 19=bin5 m18 #0 @E; if52 m19 @E; panic @panic; panic @match; end1 @fn; ret @fn"},
		{"fn f(p: (int, (bool, Box<int>))) { match p { (0, (true, _)) => 2, (_, (z, ref mut w)) => { **w = 3; return; } }; }", 0,
			"mut :(), p:(int, (bool, Box<int>)), mut :bool, mut :bool, mut :int, z:bool, w:&mut'0 Box<int>",
			"2=bin5 c1.0 #0 @0; if9 m2 @0; 3=bin5 c1.1.0 #true @true; if9 m3 @true; 4=use #2 @2; end4 @(; end3 @(; end2 @(; jump17 @(; 5=use c1.1.0 @z; 6=mut 1.1.1 @ref; 6**=use #3 @=; 0=tuple @return; end6 @return; end5 @return; end1 @return; ret @return; 0=tuple @{; end1 @fn; ret @fn"},
		{"fn f<T, U: Copy>(p: (T, U)) -> U { match p { (t, u) => u } }", 0,
			"mut :T1, p:(T0, T1), t:T0, u:T1",
			"2=use m1.0 @t; 3=use c1.1 @u; 0=use c3 @u; end3 @(; end2 @(; jump6 @(; end1 @fn; ret @fn"},
		{"fn f(p: &Option<Box<int>>, q: Box<(int, bool)>) { match *p { Option::Some(ref b) => { **b; }, Option::None => { } } match *q { (x, y) => y }; }", 0,
			"mut :(), p:&'1 D0<Box<int>>, q:Box<(int, bool)>, mut :int, mut :bool, b:&'0 Box<int>, mut :int, mut :int, mut :bool, x:int, y:bool, mut :bool",
			"3=tag 1* @Option; 4=bin5 m3 #1 @Option; if10 m4 @Option; 5=ref 1*:1.0 @ref; 6=use c5** @*; end6 @*; end5 @Option; end4 @Option; end3 @Option; jump17 @Option; 7=tag 1* @Option; 8=bin5 m7 #0 @Option; if16 m8 @Option; end8 @Option; end7 @Option; jump17 @Option; panic @match; 9=use c2*.0 @x; 10=use c2*.1 @y; 11=use c10 @y; end11 @(; end10 @(; end9 @(; jump24 @(; 0=tuple @{; end2 @fn; end1 @fn; ret @fn"},
		{"fn f(n: int) -> int { match (n, E::A) { (x, E::A) => x, (_, e) => match e { E::B(k, _) => k, _ => 0 } } }", 0,
			"mut :int, n:int, mut :(int, D1<>), mut :int, mut :D1<>, mut :int, mut :bool, x:int, e:D1<>, mut :int, mut :bool, k:int",
			"3=use c1 @n; 4=make1 @E; 2=tuple m3 m4 @(; 5=tag 2.1 @E; 6=bin5 m5 #0 @E; if12 m6 @E; 7=use c2.0 @x; 0=use c7 @x; end7 @(; end6 @(; end5 @(; jump26 @(; 8=use m2.1 @e; 9=tag 8 @E; 10=bin5 m9 #1 @E; if22 m10 @E; 11=use c8:1.0 @k; 0=use c11 @k; end11 @E; end10 @E; end9 @E; jump24 @E; 0=use #0 @0; jump24 @_; end8 @(; jump26 @(; end4 @match; end3 @match; end2 @match; end1 @fn; ret @fn"},
		{"enum V { } fn f(v: V) -> int { match v { } }", 0,
			"mut :int, v:D3<>",
			"panic @match"},
	})
}
