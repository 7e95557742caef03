package borrow

import (
	"testing"

	"holdfast/api"
)

// before and behind stand around the bodies of these tests. D, G and K have a Drop.
const before, behind = "mod main { struct D { v: int } impl Drop for D { fn drop(self: &mut D) { } } struct G<'a> { r: &'a int } impl<'a> Drop for G<'a> { fn drop(self: &mut G<'a>) { } } struct K<'a> { r: &'a mut int } impl<'a> Drop for K<'a> { fn drop(self: &mut K<'a>) { } } struct H<'a> { r: &'a int } struct M<'a> { r: &'a mut int } struct W<T> { x: T } enum E<'a> { A(&'a int, int), B(Box<int>), N } " +
	"trait Tr { fn get(self: &Self, x: &int) -> int; fn same(self: Self) -> Self; fn first(self: &Self, x: &int) -> &int; } impl Tr for int { fn get(self: &int, x: &int) -> int { *self } fn same(self: int) -> int { self } fn first(self: &int, x: &int) -> &int { self } } impl<'a> Tr for &'a int { fn get(self: &&'a int, x: &int) -> int { **self } fn same(self: &'a int) -> &'a int { self } fn first(self: &&'a int, x: &int) -> &int { *self } } " +
	"fn big<'a>(x: &'a int, y: &'a int) -> &'a int { if *x > *y { x } else { y } } fn one<'a, 'b>(x: &'a int, y: &'b int) -> &'a int { x } fn long<'a, 'b: 'a>(x: &'a int, y: &'b int) -> &'a int { y } fn ever<'a: 'static>(x: &'a int) -> int { *x } fn still<T: 'static>(x: T) { } fn tied<'a, T: 'a>(x: &'a int, y: T) -> fn 'a() -> int { fn[y]() -> int { 1 } } fn id<T>(x: T) -> T { x } fn eat<T>(x: T) { } fn pass<'a>(x: &'a mut int) -> &'a mut int { x } fn put<'a, 'b>(x: &'a mut &'b int, y: &'b int) { *x = y; } " +
	"fn main(n: int) -> int { ", " } }"

// bodies are bodies of main, each with one fault, or with none.
func bodies(t *testing.T, kind api.Errno, marked ...string) {
	t.Helper()
	for _, body := range marked {
		judged(t, kind, before+body+behind)
	}
}

// P26: each kind of touch, to read and to write, of what is lent, and of what is lent to be changed.
func TestTouches(t *testing.T) {
	bodies(t, api.ErrLoan,
		"let mut x = n; let r = &mut x; let y = @x; *r = 1; y",
		"let mut x = n; let r = &mut x; let y = 1 + @x; *r = 1; y",
		"let mut x = n; let r = &mut x; eat(@x); *r = 1; n",
		"let b = boxed(n); let r = &b; eat(@b); **r",
		"let mut b = boxed(n); let r = &mut b; eat(@b); **r",
		"let mut x = n; let r = &mut x; let s = @&x; *r = 1; n",
		"let mut x = n; let r = &x; let s = @&mut x; *r",
		"let mut x = n; let r = &mut x; let s = @&mut x; *r = 1; n",
		"let mut x = n; let r = &mut x; let f = fn[@&x]() -> int { *x }; *r = 1; n",
		"let mut x = n; let r = &x; let f = fn mut[@&mut x]() -> int { *x }; *r",
		"let mut x = n; let r = &mut x; let f = fn[@x]() -> int { x }; *r = 1; n",
		"let mut o = Option::Some(n); let r = &mut o; match o { @Option::Some(_) => { }, Option::None => { } } *r = Option::None; n",
		"let mut x = n; let r = &mut x; match x { @1 => { }, _ => { } } *r = 1; n",
		"let mut x = n; let r = &mut x; match x { @y => { } } *r = 1; n",
		"let mut x = n; let r = &x; match x { @ref mut y => { } } *r",
		"let mut x = n; let r = &x; x @= 2; *r",
		"let mut x = n; let r = &mut x; x @= 2; *r",
		"let mut b = boxed(n); let r = &b; b @= boxed(2); **r",
		"let mut b = boxed(n); let r = &*b; b @= boxed(2); *r",
		"let mut b = boxed(n); let r = &mut *b; *b @= 2; *r",
		"let r: &int; @{ let x = n; r = &x; } *r",
		"let r: &int; @{ let b = boxed(n); r = &*b; } *r",
		"let mut c = n > 1; let r = &mut c; if @c { } *r = true; n",
		"let mut c = n > 1; let r = &mut c; while @c { } *r = true; n",
		"let mut f = fn mut[n]() -> int { n }; let r = &f; @f(); eat(r); n",
		"let f = fn once[n]() -> int { n }; let r = &f; @f(); eat(r); n",
		"let mut x = n; let r = &mut x; return @x + *r",
	)
	bodies(t, api.OK,
		"let x = n; let r = &x; let y = x; *r + y",
		"let mut x = n; let r = &mut x; *r = 1; let y = x; y",
		"let b = boxed(n); let r = &b; let y = **r; eat(b); y",
		"let x = n; let r = &x; let s = &x; *r + *s",
		"let mut x = n; let r = &mut x; *r = 1; let s = &mut x; *s = 2; x",
		"let o = Option::Some(n); let r = &o; match o { Option::Some(k) => k, Option::None => { eat(r); 1 } }",
		"let mut x = n; let r = &x; x = 2; x",
		"let r: &int; let x = n; { r = &x; } *r",
		"let f = fn[n]() -> int { n }; let r = &f; f(); eat(r); n",
		"let mut f = fn mut[n]() -> int { n }; f() + f()",
	)
}

// P26: places that are lent, and places that are touched: the same, one within the other, beside one another.
func TestParts(t *testing.T) {
	bodies(t, api.ErrLoan,
		"let mut p = (n, n); let r = &mut p.0; let q = @p; *r = 3; n",
		"let mut p = (n, n); let r = &mut p.0; p.0 @= 2; *r = 3; n",
		"let mut p = (n, n); let r = &mut p; p.0 @= 2; *r = (3, 4); n",
		"let mut p = (n, n); let r = &mut p; let x = p@.1; *r = (3, 4); n",
		"let mut p = ((n, n), n); let r = &mut p.0.1; let q = p@.0; *r = 3; n",
		"let mut p = ((n, n), n); let r = &mut p.0; p.0.1 @= 2; eat(r); n",
		"let mut b = boxed((n, n)); let r = &mut (*b).0; let c = @b; *r = 1; n",
		"let mut b = boxed((n, n)); let r = &mut (*b).0; (*b).0 @= 1; *r = 1; n",
		"let mut b = boxed((n, n)); let r = &mut b; (*b).0 @= 1; eat(r); n",
		"let mut w = make W { x: boxed(n) }; let r = &mut *w.x; let s = @&w; *r = 1; n",
		"let mut x = n; let r = &mut x; let s = &mut *r; *r @= 2; *s = 1; n",
		"let mut x = n; let r = &mut x; let s = &*r; *r @= 2; *s",
		"let mut x = n; let r = &mut x; let s = &mut *r; let q = @r; *s = 1; n",
		"let mut x = (n, n); let r = &mut x; let s = &mut (*r).0; (*r).0 @= 2; *s = 1; n",
		"let mut o = Option::Some((n, n)); match o { Option::Some((ref mut a, ref mut b)) => { let c = @o; *a = 1; }, Option::None => { } } n",
		"let mut p = (n, n); match p { (ref mut a, ref b) => { p.1 @= 2; *a = *b; } } n",
		"let mut x = n; let mut q = &mut x; let r = &mut q; let s = &mut **r; @*q; *s = 1; n",
	)
	bodies(t, api.OK,
		"let mut p = (n, n); let r = &mut p.0; p.1 = 2; let x = p.1; *r = x; n",
		"let mut p = ((n, n), n); let r = &mut p.0.1; p.0.0 = 2; p.1 = 3; *r = 3; n",
		"let mut p = (n, n); match p { (ref mut a, ref mut b) => { *a = 1; *b = 2; *a = 3; } } n",
		"let mut b = boxed((n, n)); let r = &mut (*b).0; (*b).1 = 1; *r = 1; n",
		"let mut x = (n, n); let r = &mut x; let s = &mut (*r).0; (*r).1 = 2; *s = 1; n",
		"let mut x = n; let r = &mut x; let s = &mut *r; *s = 1; *r = 2; n",
		"let mut x = n; let mut y = n; let r = &mut x; let s = &mut y; *r = 1; *s = 2; *r = 3; n",
		"let mut o = Option::Some((n, n)); match o { Option::Some((ref mut a, ref mut b)) => { *a = *b; }, Option::None => { o = Option::None; } } n",
		// What another one leads to for reading is not touched by whoever changes the way to it.
		"let x = n; let y = n; let mut r = &x; let s = &*r; r = &y; *s + *r",
		"let x = n; let mut p = (&x, n); let s = &*p.0; p.1 = 2; p.0 = &n; *s",
	)
}

// P26: how far a touch goes that is shallow, one that drops, one that is deep.
func TestDepths(t *testing.T) {
	bodies(t, api.OK,
		// shallow: what is given anew takes nothing from what its reference led to
		"let mut x = n; let mut y = n; let mut r = &mut x; let s = &mut *r; r = &mut y; *s = 1; *r = 2; n",
		"let mut x = n; let mut y = n; let mut p = (&mut x, 1); let s = &mut *p.0; p = (&mut y, 2); *s = 1; n",
		"let mut x = n; let s: &mut int; { let r = &mut x; s = &mut *r; } *s = 1; n",
		"let mut x = n; let s: &mut int; { let m = make M { r: &mut x }; s = &mut *m.r; } *s = 1; n",
		// dropping stops at references
		"let mut x = n; let mut y = n; let mut p = (&mut x, boxed(1)); let s = &mut *p.0; p = (&mut y, boxed(2)); *s = 1; n",
		"let mut x = n; let s: &mut int; { let p = (&mut x, boxed(1)); s = &mut *p.0; } *s = 1; n",
		"let mut x = n; let s: &mut int; { let b = boxed(&mut x); s = &mut **b; } *s = 1; n",
		"let mut x = n; let s: &mut int; { let w = make W { x: (boxed(1), &mut x) }; s = &mut *w.x.1; } *s = 1; n",
		// what is not there is not dropped
		"let mut x = n; let s: &mut int; { let k = make K { r: &mut x }; eat(k); } s = &mut x; *s = 1; n",
	)
	bodies(t, api.ErrLoan,
		// shallow stays at what is there itself
		"let s: &int; @{ let p = (n, n); s = &p.1; } *s",
		"let mut p = (n, n); let s = &p.1; p @= (1, 2); *s",
		// dropping goes through boxes
		"let s: &int; @{ let p = (1, boxed(n)); s = &*p.1; } *s",
		"let s: &int; @{ let b = boxed(boxed(n)); s = &**b; } *s",
		"let mut p = (1, boxed(n)); let s = &*p.1; p @= (2, boxed(2)); *s",
		"let mut b = boxed(boxed(n)); let s = &**b; *b @= boxed(2); *s",
		"let mut b = boxed(n); let r = &mut b; let s = &mut **r; *r @= boxed(2); *s = 1; n",
		// a Drop sees all that its value has
		"let mut x = n; let s: &mut int; @{ let k = make K { r: &mut x }; s = &mut *k.r; } *s = 1; n",
		"let mut x = n; let s: &mut int; @{ let p = (1, make K { r: &mut x }); s = &mut *p.1.r; } *s = 1; n",
		"let mut x = n; let s: &mut int; @{ let b = boxed(make K { r: &mut x }); s = &mut *(*b).r; } *s = 1; n",
		"let mut x = n; let mut y = n; let mut k = make K { r: &mut x }; let s = &mut *k.r; k @= make K { r: &mut y }; *s = 1; n",
		// deep goes through all
		"let mut x = n; let r = &mut x; let s = &mut *r; eat(@r); *s = 1; n",
		"let mut x = n; let m = make M { r: &mut x }; let s = &mut *m.r; eat(@m); *s = 1; n",
		"let mut x = n; let p = (&mut x, 1); let s = &mut *p.0; let q = @&p; *s = 1; n",
		"let mut x = n; let p = (boxed(&mut x), 1); let s = &mut **p.0; let q = @p; *s = 1; n",
		"let mut x = n; let mut r = &mut x; let s = &mut *r; let q = @&mut r; *s = 1; n",
	)
}

// P24, P26: loops and ways that meet again.
func TestWays(t *testing.T) {
	bodies(t, api.OK,
		"let mut x = n; let mut k = 0; while k < 2 { let r = &mut x; *r = k; k = k + 1; } x",
		"let mut x = n; let mut o: Option<&mut int> = Option::None; let mut k = 0; while k < 2 { o = Option::Some(&mut x); k = k + 1; } n",
		"let mut x = n; let r = &mut x; if n > 1 { *r = 1; } else { x = 2; } x",
		"let mut x = n; let mut y = n; let mut r = &mut x; if n > 1 { r = &mut y; x = 1; } *r = 1; n",
		"let mut x = n; loop { let r = &mut x; if n > 1 { *r = 1; break; } x = 2; } x",
		"let mut x = n; let mut r = &x; while *r > 1 { x = 1; r = &x; } n",
		"let mut x = (n, n); let mut r = &mut x; while n > 1 { let s = &mut *r; (*s).0 = 1; } *r = (1, 1); n",
		"let mut x = n; let r = &mut x; n > 1 && { *r = 1; true }; x",
		"let mut x = n; let r: &mut int; if n > 1 { return x; } r = &mut x; *r = 2; n",
		"let mut x = n; let r = &mut x; if n > 1 { x = 1; return x; } *r = 2; n",
		"let mut x = n; let r = &mut x; if n > 1 { x = 1; panic; } *r = 2; n",
		"let mut l = Option::Some(boxed(n)); let mut r = &mut l; loop { match *r { Option::Some(_) => { *r = Option::None; }, Option::None => break } } n",
	)
	bodies(t, api.ErrLoan,
		"let mut x = n; let mut o = vec::<&mut int>(); let mut k = 0; while k < 2 { push(&mut o, @&mut x); k = k + 1; } n",
		"let mut x = n; let r = &mut x; if n > 1 { x @= 2; } *r = 1; x",
		"let mut x = n; let mut y = n; let mut r = &mut x; if n > 1 { r = &mut y; } x @= 1; *r = 1; n",
		"let mut x = n; let mut r = &n; while n > 1 { r = &x; } x @= 1; *r",
		"let mut x = n; let mut r = &n; while n > 1 { x @= 1; eat(*r); r = &x; } n",
		"let mut x = n; let mut r = &n; loop { if n > 1 { r = &x; next; } if n > 2 { break; } x @= 1; } *r",
		"let mut x = n; let mut r = &n; loop { if n > 1 { r = &x; break; } if n > 2 { break; } } x @= 1; *r",
		"let mut x = n; let r = &x; n > 1 || { x @= 1; true }; *r",
		"let mut x = n; let r = match n { 1 => &x, 2 => &n, _ => &n }; x @= 1; *r",
		"let mut r = &n; while n > 1 @{ let x = n; r = &x; } *r",
		"let mut r = &n; loop { let x = n; r = &x; if n > 1 { @break; } } *r",
	)
}

// P24, P26: what is given ends the loans of what stood there; an end ends those of its local.
func TestEnded(t *testing.T) {
	bodies(t, api.OK,
		"let mut x = n; let mut y = n; let mut r = &mut x; let s = &mut *r; r = &mut y; *r = 2; *s = 1; n",
		"let mut x = n; let mut p = (&mut x, 1); let s = &mut *p.0; let mut y = n; p.0 = &mut y; *p.0 = 2; *s = 1; n",
		"let mut x = n; let mut y = n; let mut p = (&mut x, 1); let s = &mut *p.0; p = (&mut y, 2); *p.0 = 2; *s = 1; n",
		"let mut x = n; let s: &mut int; { let r = &mut x; s = &mut *r; } *s = 1; x",
		"let mut x = n; let mut y = n; let mut v = vec::<&mut int>(); let mut r = &mut x; let s = &mut *r; push(&mut v, s); r = &mut y; *r = 1; n",
	)
	bodies(t, api.ErrLoan,
		// What is beside it, or in it, says nothing of the rest.
		"let mut x = n; let mut p = (&mut x, 1); let s = &mut *p.0; p.1 = 2; *p.0 @= 2; *s = 1; n",
		"let mut x = (n, n); let r = &mut x; let s = &mut *r; (*r).0 @= 2; (*r).1 = 3; *s = (1, 1); n",
		"let mut x = n; let mut v = vec::<&mut int>(); let r = &mut x; while n > 1 { let s = @&mut *r; push(&mut v, s); } n",
	)
}
