package check

import (
	"reflect"
	"testing"

	"holdfast/api"
)

// P17: impls that overlap come ahead of all bodies, and functions come in their order.
func TestFirstFault(t *testing.T) {
	refuses(t, api.ErrOverlap, "mod main { fn main(n: int) -> int { true } trait A { } impl A for int { } @impl<T> A for T { } }")
	refuses(t, api.ErrType, "mod k { fn f() -> int { @true } } mod main { fn main(n: int) -> int { x } }", "mod main { trait A { fn f(self: Self) -> int; } impl A for int { fn f(self: int) -> int { @true } } fn main(n: int) -> int { x } }")
	refuses(t, api.ErrName, "mod main { fn main(n: int) -> int { @x } fn f() -> int { true } }", "mod main { fn main(n: int) -> int { (n, @x, true + 1).0 } }")
	// A closure's body is looked at where the closure stands.
	refusesBlocks(t, api.ErrName, "", "let f = fn[]() { @x; }; y", "let f = fn[]() { fn[]() { @x; }; y; }; z")
	refusesBlocks(t, api.ErrType, "", "(n, fn[]() -> bool { @1 }, x); n")
}

// P17: an expression has the type that is wanted.
func TestAnotherType(t *testing.T) {
	refusesBlocks(t, api.ErrType, "fn f(x: int, y: bool) -> bool { y }",
		"@true", "@()", "@(n, n)", "@&n", "{ @true }", "@{ }", "@{ n; }", "@{ let x = 1; }", "if true { @true } else { n }", "if true { n } else { @true }", "if true { n } else { if false { 1 } else { @true } }", "@if true { }", "@while true { }", "@loop { break; }", "n; n @== 1",
		"f@(n, true)", "f(@true, n); n", "f(n, @n); n", "let x: bool = @n; n", "let x: (int, bool) = (@true, n); n", "let x: (int, bool) = @(n, true, n); n", "let x: (int, bool) = @n; n", "let x: &int = &@true; n", "let x: &mut int = @&n; n", "let x: &int = @&mut n; n", "let x: &int = @n; n",
		"-@true", "!@n; n", "@true + 1", "1 + @true", "1 < @true; n", "@true < 1; n", "1 == @true; n", "true != @1; n", "@(1, 2) == (1, 2); n", "@&n == &n; n", "@panic == 1; n", "Option::Some@(n) == 1; n", "@n && true; n", "true && @n; n", "@n || true; n", "true || @n; n",
		"n = @true; n", "let mut x = (n, true); x.1 = @1; n", "*&mut n = @(); n", "if @n { }; n", "if @n { 1 } else { 2 }", "while @n { } n", "if true { @n } n", "while true { @n } n", "loop { @n }", "if true { true; } else { @n }; n",
		"return @true", "@return; n", "@return", "@n.0", "(@true).0", "@n.x", "@E::A.x", "@(n, true).x; n", "@make k::G { g: n, h: Option::None }.0", "*@n", "*@(n, true); n", "*rc@(n); n", "*@true; n", "*@panic; n",
		"@n(1)", "@true()", "(@panic)(); n", "match n { @true => 1, _ => 2 }", "match true { @1 => 1, _ => 2 }", "match n { @() => 1, _ => 2 }", "match (n, true) { (@true, _) => 1, _ => 2 }", "match n { @E::A => 1, _ => 2 }", "match Option::Some(1) { @E::A => 1, _ => 2 }", "match E::A { @Option::None => 1, _ => 2 }", "match E::B(1) { E::B(@true) => 1, _ => 2 }", "match &E::A { @E::A => 1, _ => 2 }", "match Option::Some(n) { Option::Some(@true) => 1, _ => 2 }",
		"match n { 1 => n, _ => @true }", "match n { 1 => @true, _ => n }", "match n { 1 => true, _ => @2 }; n", "match n { 1 => panic, 2 => true, 3 => panic, _ => @2 }; n", "if true { 1 } else { @true }; n", "if true { panic } else { @true }",
		"let f = fn[]() -> int { @true }; n", "let f = fn[]() -> int { return @true; }; n", "let f = fn[]() { return @1; }; n", "let f = fn[]() -> int { @return }; n", "let f = fn[](x: int) { }; f(@true); n", "let f = fn[n]() -> bool { @n }; n", "spawn[] -> int { @true }; n", "let f: fn(int) -> int = @fn[](x: int) -> bool { true }; n", "let f: fn(int) -> int = @fn mut[](x: int) -> int { x }; n")
	// What is told by nothing is not wanted.
	passes(t, "", "if true { } else { panic } n", "if true { true } else { panic }; n", "if true { panic } else { true }; n", "match n { 1 => panic, _ => true }; n", "{ panic; true }; n", "let x: bool = { panic; }; n", "n; true; (); n", "let x: bool = if true { panic } else { panic }; n", "let x: int = loop { }; x", "let x: int = { { panic } }; x")
}

// P17: places of blocks that go elsewhere are those of what they give.
func TestBlocksWanted(t *testing.T) {
	refusesBlocks(t, api.ErrType, "", "return n; @true", "{ return n; @true }", "panic; @()", "{ { panic; } @true }")
	passes(t, "", "{ return n; }", "return n;", "panic;", "let x = panic;", "loop { }", "let x: int; x")
}

// P17: names that are not there, are not seen, or say something else.
func TestPaths(t *testing.T) {
	const own = "fn f(x: int) { } struct P { x: int } trait A { } enum O { X }"
	refusesBlocks(t, api.ErrName, own, "@x", "@x()", "@x::y", "@k::x", "@k::x()", "@x::y::z", "@P::x::y", "@E::D", "@E::D(1)", "@k::E::D", "@Option::Nope(1)", "@T1::x(&n)", "@k::T1::x", "@A::x(n)", "@E::A::x", "@Option::Some::x", "@make Q { }", "@make k::Q { }", "@make q::Q { }", "fn[@x]() { }; n", "fn[@&x]() { }; n", "spawn[@&mut x] { }; n", "fn[@f]() { }; n", "match n { @q::X => 1, _ => 2 }", "match E::A { @E::D => 1, _ => 2 }", "match E::A { @k::E::D(1) => 1, _ => 2 }", "match n { @E::D(true) => 1, _ => 2 }",
		"(n, 1)@.2; n", "()@.0; n", "(n, true, 1)@.3", "let p: P; p@.y", "let s: k::S; s@.c", "make P { @y: 1, x: 2 }; n", "make P { x: 1, @z: 2 }; n", "make k::S { @c: 1 }; n", "let g: k::G<int>; g@.i")
	refusesBlocks(t, api.ErrPrivate, own, "@k::hid()", "@k::hid", "@make k::Hid { }", "@k::hid::x()", "let s: k::S; s@.b", "let s: k::S; s@.b; x", "make k::S { a: 1, @b: true }; n", "make k::S { @b: 1, a: true }; n", "match n { @k::Hid::x => 1, _ => 2 }", "let x: @k::Hid; n")
	refusesBlocks(t, api.ErrSort, own, "@main", "@f", "@out", "@P", "@E", "@Option", "@Box", "@A", "@T1", "@Copy", "@k::id", "@k::T1::t", "@f::x", "@P::x", "@Box::new", "@Copy::x", "@Drop::drop", "@P(1)", "@E(1)", "@Box(1)", "@A(1)", "@P::x(1)", "@f::x(1)", "@out::x(1)", "@Drop::drop(n)", "@Drop::nope(n)", "@Send(n)", "@Box::x(n)", "@k::id::x(n)",
		"@make E { }", "@make E::A { }", "@make Option { }", "@make Box { }", "@make f { }", "@make A { }", "@make P::x { }", "@make Copy { }", "match n { @P::x => 1, _ => 2 }", "match n { @f::x => 1, _ => 2 }", "match n { @A::x => 1, _ => 2 }", "match n { @Box::x => 1, _ => 2 }", "match n { @k::E => 1, _ => 2 }", "match n { @k::S => 1, _ => 2 }", "match n { @k::S::x => 1, _ => 2 }", "match n { @Copy::x => 1, _ => 2 }", "match n { @k::id::x => 1, _ => 2 }")
	// Within the module that has it what is not Pub is seen.
	passes(t, own+" fn g(p: P) -> int { let q = make P { x: 1 }; p.x + q.x }", "n")
	refuses(t, api.ErrPrivate, "mod k { pub struct S { x: int } fn f(s: S) -> int { s.x } } mod main { fn g(s: k::S) -> int { s@.x } fn main(n: int) -> int { n } }")
	// What is called is found ahead of anything that it is given, of types too.
	refusesBlocks(t, api.ErrName, own, "@x(y, true + 1)", "@x::<Q>(1)", "@make Q { x: y }", "@E::D::<Q>")
	refusesBlocks(t, api.ErrSort, own, "@P(y)", "@main::<Q>", "@f::<Q>")
}

// P17: numbers of types and values.
func TestCounts(t *testing.T) {
	const own = "fn f(x: int) { } fn g<T, U>(x: T, y: U) { } struct P<T> { x: int, y: T }"
	refusesBlocks(t, api.ErrCount, own, "@n::<int>", "@n::<int>(1)", "@n::<Q>", "let f = fn[]() { }; @f::<int>(); n", "let n = fn[n]() -> int { @n::<int> }; 1",
		"f@(); n", "f@(1, 2); n", "f::<int>@(1); n", "f::<Q>@(1, 2); n", "g::<int>@(1, 2); n", "g::<int, int, int>@(1, 2); n", "g::<Q>@(1, 2); n", "g@(1); n", "g::<int, int>@(x); n", "g@(x, y, z); n", "out@(); n", "out::<int>@(1); n", "vec::<int, int>@(); n", "vec@(1); n", "len@(); n", "T1::t@(); n", "T1::t::<int, int>@(&n); n", "T1::t@(&n, 1)", "@E::B; n", "E::A@(1); n", "E::A@(y); n", "E::B@(1, 2); n", "@E::A::<int>; n", "@Option::None::<int, int>; n", "@Option::Some; n", "@Option::Some::<int>; n", "Option::Some@(1, 2); n",
		"let f = fn[](x: int) { }; f@(); n", "let f = fn[](x: int) { }; f@(x, y); n", "let f = fn[]() { }; f@(1); n", "@make P { x: 1 }; n", "@make P { y: 1 }; n", "@make P { }; n", "@make P::<int, int> { x: 1, y: 2 }; n", "@make P::<int, int> { z: 1 }; n", "@make k::S { a: 1 }; n", "@make k::S::<int> { a: 1 }; n",
		"match (n, n) { @(x, y, z) => 1, _ => 1 }", "match (n, n) { @() => 1, _ => 1 }", "match () { @(x, y) => 1, _ => 1 }", "match E::A { @E::A(x) => 1, _ => 2 }", "match E::A { @E::B => 1, _ => 2 }", "match E::A { @E::C(1) => 1, _ => 2 }", "match E::A { @E::C(1, true, 2) => 1, _ => 2 }", "match E::A { @E::C(true) => 1, _ => 2 }", "match ((1, 2), 3) { (@(x, y, z), 1) => 1, _ => 2 }",
		"let x: @Box; n", "let x: @Option<int, int>; n", "let x: @k::L<'a, 'b, int>; n")
	// Types that are written come first, in order; what is wanted comes ahead of how many values there are.
	refusesBlocks(t, api.ErrName, own, "g::<int, @Q>(); n", "g::<@Q, R>(1); n", "k::id::<@Q>(x); n", "make P::<@Q> { }; n")
	refusesBlocks(t, api.ErrType, own, "f@()", "f@(x, y)", "g@(1)", "let x: bool = @E::B; n", "let x: Option<int> = E::B@(); n", "let x: bool = @make P { z: 1 }; n", "let x: Option<bool> = Option::Some(@n); n", "let x: P<int> = make P { x: 1, y: @true }; n")
	refusesBlocks(t, api.ErrName, own, "g(1, @x); n", "f(@x); n", "make P { y: @q, z: 1 }; n")
}

// P17: type parameters that are told by nothing, or twice.
func TestGuesses(t *testing.T) {
	const own = "fn f<T, U>(x: T) -> T { x } fn g<T>(x: T, y: T) { } fn h<T>(x: &T, y: (T, int), z: Option<T>) -> Vec<T> { vec() } struct P<T> { x: int } struct Q<T> { x: T, y: Vec<T> }"
	refusesBlocks(t, api.ErrGuess, own, "k::none@(); n", "vec@(); n", "f@(1); n", "f@(1)", "@Option::None; n", "@k::L::Nil; n", "@make P { x: 1 }; n", "let x = @Option::None; n", "let x = vec@(); n", "boxed(vec@()); n", "chan@(); n", "@let x; n", "@let mut x; n", "let x = { @let y; y }; n", "match @Option::None { _ => 1 }", "(n, @Option::None).0", "*&@Option::None; n", "h(&n, (1, 2), Option::None); k::none@(); n", "if true { @Option::None } else { Option::Some(1) }; n", "match n { 1 => @Option::None, _ => Option::Some(1) }; n", "boxed(@Option::None); n", "make Q { x: 1, y: vec() }; make Q { y: vec@(), x: 1 }; n", "g(@Option::None, Option::Some(1)); n")
	refusesBlocks(t, api.ErrType, own, "g(n, @true); n", "h(&n, (@true, 1), Option::None); n", "h(@n, (1, 1), Option::None); n", "h(&n, (1, 1), Option::Some(@true)); n", "h(@&mut n, (1, 1), Option::None); n", "push(&mut vec::<int>(), @true); n", "push(@&vec::<int>(), 1); n", "push(@1, 1); n", "let x: Vec<bool> = h(&@n, (true, 1), Option::None); n", "let x: Option<int> = h@(&n, (1, 1), Option::None); n", "let x: Vec<int> = h(&n, (1, @true), Option::None); n",
		"len(@&n)", "unbox(@n)", "unbox(rc@(n))", "unbox(boxed(@true))", "replace(@&n, n)", "let x: bool = k::id::<int>@(n); n", "k::id::<bool>@(true)", "make Q { x: 1, y: vec::<bool>@() }; n", "make Q { y: @1, x: 2 }; n", "make Q { y: vec::<bool>(), x: @2 }; n", "let q: Q<bool> = make Q { x: @1, y: vec() }; n", "let q: Q<bool> = @make P { x: 1 }; n", "let q: int = @make Q::<int> { x: 1, y: vec() }; n", "let x: (Option<int>, int) = Option::Some@(1); n", "let x: E = Option::Some@(1); n", "cut(@&n, 1); n", "lock(@&cell(n)); n", "recv(chan::<int>@()); n", "join@(n)", "join(@n); n")
	refusesBlocks(t, api.ErrType, "fn e<T>(x: (T, T)) -> (T, T) { x }", "e(@(1, true)); n", "let x: (int, bool) = e@((1, true)); n", "let x: (int, int) = e((1, @true)); n", "e(@(1, 2, 3)); n", "e(@1); n", "e(@panic); n")
	passes(t, own, "h(&n, (1, 2), Option::None); n", "g(Option::Some(1), Option::None); n", "let x: Option<int> = Option::None; n", "let x: Vec<Option<int> > = h(&Option::None, (Option::None, 1), Option::None); n", "f::<int, bool>(1)", "let p: P<bool> = make P { x: 1 }; n", "make P::<int> { x: 1 }; n", "make Q { x: 1, y: vec() }; n", "if true { Option::Some(1) } else { Option::None }; n")
	// How many values there are comes ahead of what is told by nothing, that ahead of what must be had.
	refusesBlocks(t, api.ErrCount, own, "k::none@(1); n", "@make Q { y: vec::<int>() }; n", "@make Q { }; n", "@make P { }; n")
	refusesBlocks(t, api.ErrGuess, "fn f<T: Copy, U>(x: T) { }", "f@(boxed(1)); n")
}

// P17: traits that a type must have.
func TestBounds(t *testing.T) {
	const own = "struct P { x: int } fn two<T: Copy, U: Send + T1>(x: T, y: U) { } fn gen<T, U: Copy, V: T1 + Copy>(t: T, u: U, v: V) -> V {"
	const end = " }"
	good := own + " v" + end
	refusesBlocks(t, api.ErrBound, good, "k::cp@(&boxed(n)); n", "k::cp::<Box<int> >@(&boxed(n)); n", "k::cp@(&make P { x: 1 }); n", "k::two@(true, 1); n", "k::two@(1, boxed(1)); n", "k::two@(1, &cell(1)); n", "two@(boxed(n), n); n", "two@(n, true); n", "two@(n, rc(n)); n", "two@(n, &cell(n)); n", "T1::t@(&true); n", "T1::t::<bool>@(&true)", "T1::u@(true, false); n", "T1::t@(&make k::G { g: boxed(1), h: Option::None })", "get@(&cell(boxed(n))); n", "set@(&cell(boxed(n)), boxed(1)); n", "k::cp@(&fn[]() { }); n", "two(n, make k::G { g: 1, h: Option::None }); two@(n, make P { x: 1 }); n")
	passes(t, good, "k::cp(&n)", "k::cp(&&boxed(n)); n", "k::two(1, true); n", "k::two(make k::G { g: 1, h: Option::None }, (1, &2)); n", "T1::t(&make k::G { g: 1, h: Option::None })", "get(&cell(n))", "two(&boxed(1), 2); n", "two(E::A, 2); n")
	// Of type parameters the function's own say what they have.
	for _, block := range []string{"k::cp@(&t); v", "T1::t@(&t); v", "T1::t@(&u); v", "two@(t, v); v", "two@(u, v); v", "k::cp@(&make k::G { g: t, h: Option::None }); v", "let f = fn[t]() { k::cp@(&t); }; v", "let f = fn[]() { k::none::<T>(); k::cp::<V>(panic); k::cp::<T>@(panic); }; v"} {
		refuses(t, api.ErrBound, inMain(own+block+end, "n"))
	}
	for _, block := range []string{"k::cp(&u); v", "T1::t(&v); v", "T1::u(v, v)", "k::cp(&make k::G { g: u, h: Option::None }); v", "T1::t(&make k::G { g: v, h: Option::None }); v", "let f = fn[u]() -> U { k::cp(&u) }; v", "let f = fn[]() { T1::t::<V>(panic); fn[]() { T1::t::<V>(panic); }; }; v", "k::id(t); v"} {
		passes(t, own+block+end, "n")
	}
	// Of two traits that are missing both are at the node; ahead of them comes what is wrong with a value.
	refusesBlocks(t, api.ErrName, good, "k::two(true, @x); n")
}

// P17: what can be given a value.
func TestNoPlaces(t *testing.T) {
	refusesBlocks(t, api.ErrPlace, "struct P { x: int } fn f() -> P { make P { x: 1 } }", "@1 = 2; n", "@true = x; n", "(1, 2)@.0 = 1; n", "f()@.x = 1; n", "f@() = f(); n", "@&n = &n; n", "@(n, n) = (1, 2); n", "n @+ 1 = 2; n", "@-n = 1; n", "(@{ n }) = 1; n", "(n @= 1) = (); n", "@panic = 1; n", "@E::A = E::A; n", "(@if true { n } else { n }) = 1; n", "boxed@(n) = boxed(1); n", "@make P { x: 1 } = f(); n", "make P { x: 1 }@.x = 1; n", "@fn[]() { } = 1; n")
	passes(t, "struct P<'a> { x: (int, &'a mut P<'a>) } fn f<'a>(x: &'a mut int) -> &'a mut int { x }", "let mut p: P; p.x.0 = 1; (*p.x.1).x.0 = 2; *f(&mut n) = 1; *(*boxed(p)).x.1 = panic; n", "let x: int; x = 1; x", "let f = fn mut[n]() { n = 1; }; n", "let f = fn[&mut n]() { *n = 1; }; n", "let f = fn mut[n]() { let x = (n, 1); x.0 = 1; }; n")
	// The place is looked at first, then its value.
	refusesBlocks(t, api.ErrName, "", "@x = y; n", "n = @y; n", "(@x).0 = true; n")
	refusesBlocks(t, api.ErrPlace, "", "@1 = y; n", "@1 = true; n")
}

// P17: ways out are of a loop of the same body.
func TestOut(t *testing.T) {
	refusesBlocks(t, api.ErrOut, "", "@break; n", "@next; n", "@break", "if true { @break }; n", "loop { break; } @next; n", "while true { } @break; n", "while @break { } n", "while { @next } { } n", "loop { fn[]() { @break; }; }", "while true { spawn[] { @next; }; } n", "let f = fn[]() { loop { } }; @break; n", "let f = fn[]() { while { @break } { } }; n", "match n { _ => @break }; n")
	passes(t, "", "loop { break } n", "while true { next } n", "loop { if true { break } else { next } } n", "loop { while { break } { } } n", "fn[]() { loop { break } }; n", "loop { match n { 1 => break, _ => next } } n", "loop { loop { break; } break; } n", "loop { (break, 1); } n", "loop { let x: bool = break; } n")
}

// P17: captures, parameters and results of closures and threads.
func TestClosureFaults(t *testing.T) {
	const own = "fn f<T: Send, U>(t: T, u: U) {"
	const end = " }"
	refusesBlocks(t, api.ErrTwice, "", "fn[n, @n]() { }; n", "fn[&n, @n]() { }; n", "fn[n, @&mut n]() { }; n", "let x = 1; spawn[n, x, @&n] { }; n", "let n = 1; fn[n, @n]() { }; n", "fn[n](@n: int) { }; n", "fn[](x: int, @x: bool) { }; n", "fn[n](x: int, @n: Q, x: int) { }; n", "fn[](x: int, @mut x: int) { }; n", "fn[n](@mut n: &int) { }; n")
	refusesBlocks(t, api.ErrName, "", "fn[@x, x]() { }; n", "fn[n](x: int) { fn[@y]() { }; }; n", "let y = 1; fn[n]() { fn[@y]() { }; }; n", "let y = 1; fn[n]() { @y; }; n", "fn[]() { @n; }; n", "spawn[] { @n; }; n", "fn[](x: int) { }; @x", "fn[](x: @Q, x: R) { }; n", "fn[]() -> @Q { x }; n", "spawn[] -> @Q { x }; n", "fn[](x: int, y: @Q2) -> R { }; n", "let f = fn[]() { @f; }; n")
	refusesBlocks(t, api.ErrLife, "", "fn[](x: @&int) { }; n", "fn[](x: Box<@&int>) { }; n", "fn[](x: @&'static int) { }; n", "fn[]() -> @&int { panic }; n", "fn[](x: @k::L<int>) { }; n", "fn[](x: k::L<@'a, int>) { }; n", "fn[](x: @Slice<int>) { }; n", "fn[](x: @fn() -> int) { }; n", "fn[](x: @fn 'a() -> int) { }; n", "spawn[] -> @&int { panic }; n", "spawn[] -> (int, @fn() -> ()) { panic }; n", "let x: fn(@&int) -> int; n", "let x: fn(int) -> @Slice<int>; n", "let x: fn(k::L<@'static, Q>) -> int; n")
	refusesBlocks(t, api.ErrLife, "", "let x: @&'static int; n", "let x: @&'a int; n", "let x: @&'a mut int; n", "let x: &@&'a int; n", "let x: @fn 'a() -> int; n", "let x: k::L<@'a, int>; n", "let x: Slice<@'static, Q>; n", "k::id::<@&'a int>(1); n", "make k::G::<@&'static int> { }; n", "let x: (int, Box<@&'q int>); n", "vec::<@&'a int>(1); n")
	refuses(t, api.ErrLife, inMain("fn f<'a>(x: &'a int) { let y: @&'a int = x; }", "n"), inMain("struct P<'a> { x: &'a int } impl<'a> T1 for P<'a> { fn t(self: &Self) -> int { let x: P<@'a>; 1 } fn u(self: Self, x: Self) -> Self { x } }", "n"))
	refusesBlocks(t, api.ErrSend, "", "let r = rc(n); spawn[@r] { }; n", "let r = cell(n); spawn[n, @&r] { }; n", "let r = rc(n); spawn[@&mut r, x] { }; n", "let f = fn[]() { }; spawn[@f] { }; n", "let r = rc(n); spawn[@r, r] { }; n", "@spawn[] -> Rc<int> { x }; n", "@spawn[] -> (int, Rc<int>) { panic }; n", "let m = mutex(n); let l = lock(&m); spawn[@l] { }; n", "let r = rc(n); fn[r]() { spawn[@r] { }; }; n")
	for _, block := range []string{"spawn[@u] { };", "spawn[@&t] { };", "spawn[t, @&mut u] { };", "@spawn[] -> U { panic };", "@spawn[] -> Option<U> { panic };", "fn[u]() { spawn[@u] { }; };"} {
		refuses(t, api.ErrSend, inMain(own+block+end, "n"))
	}
	passes(t, own+" spawn[t] { }; spawn[] -> T { panic }; spawn[&mut t] { }; fn[t]() { spawn[t] { }; };"+end, "let c = cell(n); spawn[c] { }; n", "let c = cell(n); spawn[&mut c] { }; n", "let r = rc(n); fn[r]() { }; n", "spawn[&n] { }; n", "let x: &int = &n; n", "let x: Slice<int>; n", "let x: fn(int) -> int; n", "let x: k::L<int>; n", "let x: &fn(Box<int>) -> bool; n", "fn[n](x: int) -> int { let n = x; n }; n", "fn[n]() { let n = true; !n; }; n")
	// Captures come first, then parameters, then the result, then the body; what is not Send comes where it stands.
	refusesBlocks(t, api.ErrName, "", "fn[@x](n: Q) -> R { y }; n", "spawn[@x, y] -> Rc<int> { z }; n", "fn[](x: int) -> @R { y }; n")
	refusesBlocks(t, api.ErrTwice, "", "fn[n](@n: Q) -> R { y }; n", "fn[n, @n](n: Q) -> R { y }; n")
	refusesBlocks(t, api.ErrSend, "", "let r = rc(n); spawn[@r, x] { }; n", "@spawn[n] -> Rc<int> { true }; n")
}

// P17: patterns that take nothing that others leave, or leave something.
func TestArms(t *testing.T) {
	refusesBlocks(t, api.ErrIdle, "", "match n { x => 1, @0 => 2 }", "match n { 0 => 1, 1 => 2, @0 => 3, _ => 4 }", "match n { _ => 1, @_ => 2, x => 3 }", "match true { true => 1, x => 2, @false => 3 }", "match (n, true) { (1, x) => 1, (y, true) => 2, @(1, false) => 3, _ => 4 }", "match E::A { E::A => 1, E::B(x) => 2, @E::B(3) => 3, E::C(_, _) => 4 }", "match E::A { ref x => 1, @ref mut y => 2 }", "match n { _ => 1, @((2)) => 2 }", "let v: k::Void; match v { @_ => 1 }", "match n { 0 => 1, @0 => 2 }", "match (n, n) { (x, y) => 1, @(z, 1) => 2 }")
	refusesBlocks(t, api.ErrArms, "", "@match n { 0 => 1, 1 => 2 }", "@match n { }", "@match true { true => 1 }", "n + @match E::A { E::A => 1, E::B(_) => 2 }", "@match (true, true) { (true, _) => 1, (_, true) => 2 }", "@match E::A { E::A => 1, E::B(0) => 2, E::C(_, _) => 3 }", "@match Option::Some(true) { Option::Some(true) => 1, Option::None => 2 }", "@match () { }", "@match panic { }", "match n { x => 1 }; @match n { 3 => 2 }")
	passes(t, "", "match true { true => 1, false => 2 }", "match (true, n) { (true, x) => x, (false, 0) => 1, (_, y) => y }", "match E::A { E::A => 1, E::B(1) => 2, E::B(_) => 3, E::C(_, true) => 4, E::C(x, false) => x }", "match () { () => 1 }", "let v: Option<k::Void>; match v { Option::None => 1 }", "let v: k::Void; match v { }", "match n { ref x => *x }", "match boxed(n) { x => 1 }", "match make k::G { g: 1, h: Option::None } { g => g.g }")
	// All arms are looked at first; of two of these faults the idle arm comes first, wherever it stands.
	refusesBlocks(t, api.ErrName, "", "match n { 0 => 1, 0 => @x }", "match n { 0 => @x }", "match n { @q::X => 1, 0 => y }", "match n { 0 => @x, q::X => y }")
	refusesBlocks(t, api.ErrType, "", "match n { 0 => 1, 0 => @true }", "match n { 0 => 1, @true => 1 }", "match n { _ => 1, _ => @true }")
	refusesBlocks(t, api.ErrIdle, "", "match n { 0 => 1, @0 => 2 }", "match true { true => 1, @true => 2 }", "match n { 1 => match n { 0 => 1, @0 => 2 } }")
	refusesBlocks(t, api.ErrArms, "", "match n { 1 => @match n { 0 => 1 }, 1 => 2 }", "match @match n { 1 => true } { true => 1 }")
}

// P17: names in patterns, and faults within them from left to right.
func TestPatternFaults(t *testing.T) {
	refusesBlocks(t, api.ErrTwice, "", "match (n, n) { (x, @x) => x }", "match (n, n) { (x, @ref x) => 1 }", "match (n, (n, n)) { (x, (y, @mut x)) => 1 }", "match E::A { E::C(x, @x) => x, _ => 1 }", "match (n, n) { (x, y) => 1 }; match (1, true) { (y, @y) => 1 }")
	passes(t, "", "match (n, n) { (x, _) => x }", "let x = 1; match n { 0 => x, x => x }", "match (n, n) { (x, 1) => x, (y, x) => x + y }", "match (n, 1) { (n, x) => match x { x => x + n } }")
	refusesBlocks(t, api.ErrName, "", "(match n { x => 1 }) + @x", "match n { 0 => 1, x => @y }", "match (n, 1) { (x, @q::X) => y, _ => 1 }", "match @x { q::X => 1 }", "match n { 0 => @x, x => 1 }")
	refusesBlocks(t, api.ErrType, "", "match (n, n) { (x, @true) => y, _ => q }", "match (n, n) { (@true, q::X) => y, _ => q }", "match (n, n) { (@E::A, E::D) => y, _ => q }")
	// What a path says comes ahead of the type, that ahead of how many kids there are.
	refusesBlocks(t, api.ErrName, "", "match n { @E::D => 1, _ => 2 }", "match n { @q::D(x, x) => 1, _ => 2 }")
	refusesBlocks(t, api.ErrSort, "", "match n { @k::S::D(x, x) => 1, _ => 2 }")
	refusesBlocks(t, api.ErrType, "", "match n { @E::B(x, x) => 1, _ => 2 }")
	refusesBlocks(t, api.ErrCount, "", "match E::A { @E::B(x, x) => 1, _ => 2 }", "match (1, 2) { @(x, x, x) => 1, _ => 2 }")
}

// P17: in a struct that is made the name comes first, then whether it is there already, then whether it is seen, then its value.
func TestMakeFaults(t *testing.T) {
	const own = "struct P<T> { x: T, y: int }"
	refusesBlocks(t, api.ErrTwice, own, "make P { x: 1, @x: 2 }; n", "make P { y: 1, x: 2, @y: z }; n", "make k::G { g: 1, @g: true, h: q }; n")
	refusesBlocks(t, api.ErrName, own, "make P { @z: q, z: 1 }; n", "make P { x: @q, x: 1 }; n", "make P { x: 1, @z: 1, x: 1 }; n")
	refusesBlocks(t, api.ErrPrivate, own, "make k::S { a: 1, @b: q }; n", "make k::S { @b: 1 }; n")
	refusesBlocks(t, api.ErrType, own, "make P { y: @true, z: 1 }; n", "make k::S { a: @true, b: true }; n", "make P::<int> { x: @true, x: 1 }; n")
	refusesBlocks(t, api.ErrCount, own, "@make P { y: 1 }; n", "let p: P<int> = @make P { y: 1 }; n", "@make k::S { a: 1 }; n")
}

// P1, P3: programs that no text has are refused, or not, but there is an answer.
func TestProgramsOfNoText(t *testing.T) {
	whole := items(t, inMain("", "let f = fn[n](x: int) -> int { x }; match (n, 1) { (0, x) => f(x), _ => make k::G { g: 1, h: Option::None }.g }"))
	spoil := func(change func(n *api.Node)) {
		p := items(t, inMain("", "n"))
		p.Fns[p.Main].Body = copied(whole.Fns[whole.Main].Body)
		spoilAll(t, p, &p.Fns[p.Main].Body, change)
	}
	spoil(func(n *api.Node) { n.Kids = nil })
	spoil(func(n *api.Node) { n.N = 99 })
	spoil(func(n *api.Node) { n.M = 99 })
	spoil(func(n *api.Node) { n.N, n.M = -1, -1 })
	spoil(func(n *api.Node) { n.Name = "" })
	spoil(func(n *api.Node) { n.Kind = api.EMatch })
	spoil(func(n *api.Node) { n.Kind = api.PCase })
	if p, fault := Check(api.Program{}); fault.Kind != api.OK || len(p.Fns) != 0 {
		t.Error(p, fault)
	}
}

// copied is a tree in memory of its own.
func copied(n api.Node) api.Node {
	kids := n.Kids
	n.Kids = nil
	for _, kid := range kids {
		n.Kids = append(n.Kids, copied(kid))
	}
	return n
}

// spoilAll changes each node of a body, one at a time.
func spoilAll(t *testing.T, p api.Program, n *api.Node, change func(n *api.Node)) {
	t.Helper()
	was := *n
	change(n)
	if made, fault := Check(p); fault.Kind != api.OK && !reflect.DeepEqual(made, api.Program{}) {
		t.Error(made, fault)
	}
	*n = was
	for i := range n.Kids {
		spoilAll(t, p, &n.Kids[i], change)
	}
}
