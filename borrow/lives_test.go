package borrow

import (
	"strings"
	"testing"

	"holdfast/api"
)

// functions are looked at by themselves, each as the first one of a program.
func functions(t *testing.T, kind api.Errno, all ...string) {
	t.Helper()
	for _, fn := range all {
		if kind == api.ErrLives {
			fn = strings.Replace(fn, "fn f", "@fn f", 1)
		}
		judged(t, kind, "mod main { "+fn+" fn main(n: int) -> int { n } }")
	}
}

// P26: a lifetime has to be as long as the code needs it, by what the signature says.
func TestLives(t *testing.T) {
	functions(t, api.ErrLives,
		"fn f<'a, 'b>(x: &'a int, y: &'b int) -> &'a int { y }",
		"fn f<'a: 'b, 'b>(x: &'a int, y: &'b int) -> &'a int { y }",
		"fn f<'a, 'b>(x: &'a int, y: &'b int) -> &'a int { if *x > 1 { x } else { y } }",
		"fn f<'a, 'b>(x: &'a mut &'b int, y: &'a int) { *x = y; }",
		"fn f<'a, 'b, 'c>(x: &'a mut &'b int, y: &'c int) { *x = y; }",
		"fn f<'a, 'b>(x: &'a mut &'b mut int) -> &'b mut int { &mut **x }",
		"fn f<'a, 'b>(x: &'a &'b mut int) -> &'b int { &**x }",
		"fn f<'a>(x: &'a int) -> &'static int { x }",
		"fn f<'a>(x: &'a int) { let r: &int; r = x; g(r); } fn g(x: &'static int) { }",
		"fn f<'a, 'b>(x: Cell<&'a int>, y: &'b int) { set(&x, y); }",
		"fn f<'a, 'b>(x: &'a int, y: &'b int) -> (&'a int, &'b int) { (y, x) }",
		"fn f<'a, 'b>(x: &'a int, y: &'b int) -> Option<&'a int> { Option::Some(y) }",
		"fn f<'a, 'b>(x: &'a int, y: &'b int) -> H<'a> { make H { r: y } } struct H<'c> { r: &'c int }",
		"fn f<'a, 'b>(x: H<'b>) -> &'a int { x.r } struct H<'c> { r: &'c int }",
		"fn f<'a, 'b>(x: &'a int, y: &'b mut &'b int) { put(y, x); } fn put<'c, 'd>(x: &'c mut &'d int, y: &'d int) { *x = y; }",
	)
	functions(t, api.OK,
		"fn f<'a, 'b: 'a>(x: &'a int, y: &'b int) -> &'a int { y }",
		"fn f<'a, 'b>(x: &'a &'b int) -> &'a int { *x }",
		"fn f<'a, 'b>(x: &'a &'b int) -> &'b int { *x }",
		"fn f<'a, 'b>(x: &'a mut &'b int, y: &'b int) { *x = y; }",
		"fn f<'a>(x: &'a mut int) -> &'a mut int { &mut *x }",
		"fn f<'a, 'b>(x: &'a mut &'b mut int) -> &'a mut int { &mut **x }",
		"fn f<'a>(x: &'static int) -> &'a int { x }",
		"fn f<'a, 'b>(x: &'a int, y: &'b int) -> int { let r = if *x > 1 { x } else { y }; *r }",
		"fn f<'a, 'b>(x: &'a Cell<&'b int>) -> &'b int { get(x) }",
		"fn f<'a>(x: H<'a>) -> &'a int { x.r } struct H<'c> { r: &'c int }",
		"fn f(x: int) -> int { let y = x; let r = &y; *r }",
	)
}

// P26: what a signature says: its bounds, what its types ask for, and what follows from these.
func TestSaid(t *testing.T) {
	functions(t, api.OK,
		// each outlives itself, the static one all
		"fn f<'a>(x: &'a int) -> &'a int { x }",
		"fn f<'a, T>(x: &'static int, y: T) -> &'a int { x }",
		// bounds, and what follows from several
		"fn f<'a, 'b: 'a, 'c: 'b>(x: &'a int, y: &'c int) -> &'a int { y }",
		"fn f<'a, 'c: 'b, 'b: 'a>(x: &'a int, y: &'c int) -> &'a int { y }",
		"fn f<'a: 'b, 'b: 'a>(x: &'a int, y: &'b int) -> (&'b int, &'a int) { (x, y) }",
		"fn f<'a: 'static, 'b>(x: &'a int) -> &'b int { x }",
		"fn f<'a: 'static>(x: &'a int) -> &'static int { x }",
		// what parameters ask for
		"fn f<'a, 'b>(x: &'a &'b int, y: &'b int) -> &'a int { y }",
		"fn f<'a, 'b>(x: &'a mut &'b int, y: &'b int) -> &'a int { y }",
		"fn f<'a, 'b, 'c>(x: &'a &'b &'c int, y: &'c int) -> &'a int { y }",
		"fn f<'a, 'b, 'c>(x: &'a &'b int, z: &'b &'c int, y: &'c int) -> &'a int { y }",
		"fn f<'a, 'b>(x: &'a (int, Box<&'b int>), y: &'b int) -> &'a int { y }",
		"fn f<'a, 'b>(x: Slice<'a, &'b int>, y: &'b int) -> &'a int { y }",
		"fn f<'a, 'b>(x: SliceMut<'a, &'b int>, y: &'b int) -> &'a int { y }",
		"fn f<'a, 'b>(x: Ref<'a, &'b int>, y: &'b int) -> &'a int { y }",
		"fn f<'a, 'b>(x: RefMut<'a, &'b int>, y: &'b int) -> &'a int { y }",
		"fn f<'a, 'b>(x: Lock<'a, &'b int>, y: &'b int) -> &'a int { y }",
		"fn f<'a, 'b>(x: &'a H<'b>, y: &'b int) -> &'a int { y } struct H<'c> { r: &'c int }",
		"fn f<'a, 'b>(x: W<&'a &'b int>, y: &'b int) -> &'a int { y } struct W<T> { x: T }",
		"fn f<'a, 'b>(x: &'a fn 'b() -> int, y: &'b int) -> &'a int { y }",
		// what the result asks for
		"fn f<'a, 'b>(x: &'b int) -> Option<(&'a int, &'a &'b int)> { Option::Some((x, panic)) }",
		"fn f<'a, 'b>(x: &'a int, y: &'b int) -> (&'a int, Option<&'a &'b int>) { (y, Option::None) }",
	)
	functions(t, api.ErrLives,
		"fn f<'a, 'b, 'c: 'b>(x: &'a int, y: &'c int) -> &'a int { y }",
		"fn f<'a, 'b, 'c>(x: &'a &'b int, z: &'a &'c int, y: &'c int) -> &'b int { y }",
		"fn f<'a, 'b>(x: &'a &'b int, y: &'a int) -> &'b int { y }",
		// neither a data type nor a closure asks for anything itself
		"fn f<'a, 'b>(x: P<'a, 'b>, y: &'b int) -> &'a int { y } struct P<'c, 'd> { r: &'c int, s: &'d int }",
		"fn f<'a, 'b>(x: P<'a, 'b>, y: &'b int) -> &'a int { y } struct P<'c, 'd> { r: &'c &'d int }",
		"fn f<'a, 'b>(x: (&'a int, &'b int), y: &'b int) -> &'a int { y }",
		"fn f<'a, 'b>(x: Box<&'a int>, z: Box<&'b int>, y: &'b int) -> &'a int { y }",
		"fn f<'a: 'b, 'b>(x: &'b int) -> &'static int { x }",
	)
}

// P26: the regions of type parameters.
func TestLivesOfTypes(t *testing.T) {
	functions(t, api.ErrLives,
		"fn f<'a, T>(x: T) -> fn 'a() -> int { fn[x]() -> int { 1 } }",
		"fn f<'a, T>(x: (int, Box<T>)) -> fn 'a() -> int { fn[x]() -> int { 1 } }",
		"fn f<'a, 'b, T: 'b>(x: T) -> fn 'a() -> int { fn[x]() -> int { 1 } }",
		"fn f<T: Send>(x: T) { spawn[x] { }; }",
		"fn f<'a, T: Send + 'a>(x: T) { spawn[x] { }; }",
		"fn f<T>(x: T) { g(x); } fn g<T: 'static>(x: T) { }",
		"fn f<'a, T, U: 'a>(x: T, y: Cell<&'a int>) { g(x, y); } fn g<'b, T: 'b>(x: T, y: Cell<&'b int>) { }",
	)
	functions(t, api.OK,
		"fn f<'a, T>(x: &'a T, y: T) -> &'a T { x }",
		"fn f<'a, T: 'a>(x: T) -> fn 'a() -> int { fn[x]() -> int { 1 } }",
		"fn f<'a, 'b: 'a, T: 'b>(x: T) -> fn 'a() -> int { fn[x]() -> int { 1 } }",
		"fn f<'a, T>(x: T, y: &'a T) -> fn 'a() -> int { fn[x]() -> int { 1 } }",
		"fn f<'a, T>(x: T, y: Option<&'a (T, int)>) -> fn 'a() -> int { fn[x]() -> int { 1 } }",
		"fn f<'a, T>(x: T, y: &'a int) -> (fn 'a() -> int, Option<&'a T>) { (fn[x]() -> int { 1 }, Option::None) }",
		"fn f<T: Send + 'static>(x: T) { spawn[x] { }; }",
		"fn f<T: 'static>(x: T) { g(x); } fn g<T: 'static>(x: T) { }",
		"fn f<'a, T>(x: T, y: &'a int) { g(x, y); } fn g<'b, T: 'b>(x: T, y: &'b int) { }",
		"fn f<T>(x: T) { let r = &x; g(r); } fn g<T>(x: &T) { }",
		"fn f<T>(x: T) -> T { let y = fn[](z: T) -> T { z }; y(x) }",
	)
}

// P26: closures are functions with signatures of their own, whose lifetimes have nothing to do with those around them.
func TestLivesOfClosures(t *testing.T) {
	const ending = " fn main(n: int) -> int { n } }"
	for _, marked := range []string{
		"mod main { fn f<'a>(x: &'a int, v: Vec<&'a int>) { let mut v = v; @fn mut[&mut v, x]() -> int { push(&mut *v, x); 1 }; }",
		"mod main { fn f<'a>(x: &'a int, y: Cell<&'a int>) { @fn once[x, y]() -> int { set(&y, x); 1 }; }",
		"mod main { fn f<'a, T: Send + 'a>(x: T) { fn once[x]() -> int { @fn once[x]() -> int { spawn[x] { }; 1 }; 1 }; }",
	} {
		judged(t, api.ErrLives, marked+ending)
	}
	for _, text := range []string{
		"mod main { fn f<'a>(x: &'a int, v: Vec<int>) { let mut v = v; fn mut[&mut v, x]() -> int { push(&mut *v, *x); 1 }; }",
		"mod main { fn f<T: Send + 'static>(x: T) { fn once[x]() -> int { fn once[x]() -> int { spawn[x] { }; 1 }; 1 }; }",
		"mod main { fn f<'a>(x: &'a int) { fn once[&x]() -> int { **x }; fn[x](y: int) -> int { *x + y }; }",
	} {
		judged(t, api.OK, text+ending)
	}
}

// P26: what a closure takes and gives has no lifetimes, unless by Self: nothing is known of these.
func TestClosuresWithSelf(t *testing.T) {
	const head = "mod main { trait T { fn t(self: Self) -> int; } impl<'a> T for &'a int { fn t(self: &'a int) -> int { "
	for body, want := range map[string]string{
		"let g = fn[](x: Self) -> int { *x }; g(self)":                                "",
		"let g = fn[](x: Self) -> int { let y = x; let z: Self = y; *z }; g(self)":    "",
		"let g = @fn[](x: Self) -> Self { x }; *g(self)":                              "@",
		"let g = @fn[self](x: int) -> Self { self }; *g(1)":                           "@",
		"let g = @fn[](x: Self, y: (Self, int)) -> Self { y.0 }; *g(self, (self, 1))": "@",
	} {
		text := head + body + " } } fn main(n: int) -> int { n } }"
		fault := api.Fault{}
		if want != "" {
			fault = api.Fault{Kind: api.ErrLives, At: strings.Index(text, "@")}
		}
		if got := Check(lowered(t, strings.Replace(text, "@", "", 1))); got != fault {
			t.Errorf("%q: %v, not %v", text, got, fault)
		}
	}
}
