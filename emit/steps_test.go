package emit

import "testing"

// P39: the document's examples that pass.
func TestExamples(t *testing.T) {
	rows(t, [][2]string{
		{"fn add(a: int, b: int) -> int { a + b } fn main(n: int) -> int { let x = add(n, 1); x * 2 }", "Done 12"},
		{"fn main(n: int) -> int { let mut x = n; let r = &mut x; *r = 1; let y = x; y }", "Done 1"},
		{"fn f(n: int) -> int { let a = make D { v: 1 }; let b = make D { v: 2 }; let c = boxed(make D { v: 3 }); if n > 3 { panic } else { n } } fn main(n: int) -> int { let z = make D { v: 9 }; f(n) }", "Failed [3 2 1 9]"},
		{"struct N { link: RefCell<Option<Rc<N>>> } fn main(n: int) -> int { let a = rc(make N { link: refcell(Option::None) }); let b = rc_clone(&a); { let mut g = borrow_mut(&(*rc_get(&a)).link); *mut_get(&mut g) = Option::Some(b); } rc_count(&a) }", "Done 2 left"},
		{"fn main(n: int) -> int { let m = mutex(n); let g = lock(&m); let h = lock(&m); 1 }", "Stuck"},
		{"fn main(n: int) -> int { let p = chan::<int>(); let q = chan::<int>(); let tx = p.0; let rx = p.1; let tx2 = q.0; let rx2 = q.1; let h = spawn[rx, tx2] -> int { let mut k = 0; loop { match recv(&rx) { Option::Some(x) => { send(&tx2, x * 2); k = k + 1; }, Option::None => break } } k }; let mut i = 0; while i < n { send(&tx, i); i = i + 1; } { let gone = tx; } let mut s = 0; loop { match recv(&rx2) { Option::Some(x) => { s = s + x; }, Option::None => break } } match join(h) { Option::Some(k) => s * 100 + k, Option::None => 0 - 1 } }", "Done 2005"},
	})
}

// P39: numbers, at their ends too.
func TestNumbers(t *testing.T) {
	rows(t, [][2]string{
		{"n", "Done 5"},
		{"7", "Done 7"},
		{"n + 3 - n * 2 / 3 % 4", "Done 5"},
		{"(0 - n) / 2 * 10 + (0 - n) % 2", "Done -21"},
		{"let k = 9223372036854775802; k + n", "Done 9223372036854775807"},
		{"let k = 9223372036854775803; k + n", "Failed"},
		{"let k = 0 - 9223372036854775803; k - n", "Done -9223372036854775808"},
		{"let k = 0 - 9223372036854775804; k - n", "Failed"},
		{"4611686018427387904 * (n - 3)", "Failed"},
		{"n / (n - 5)", "Failed"},
		{"n % (n - 5)", "Failed"},
		{"let k = 0 - 9223372036854775807; (k - 1) / (4 - n)", "Failed"},
		{"let k = 0 - 9223372036854775807; (k - 1) % (4 - n)", "Failed"},
		{"let k = 0 - 9223372036854775807; -k", "Done 9223372036854775807"},
		{"let k = 0 - 9223372036854775807; -(k - 1)", "Failed"},
		{"-n", "Done -5"},
		{"if !(n > 3) { 1 } else { 2 }", "Done 2"},
		{"let a = n == 5; let b = n != 5; if a == b { 1 } else { if a != b { 2 } else { 3 } }", "Done 2"},
		{"let mut k = 0; if n < 5 { k = k + 1; } if n <= 5 { k = k + 10; } if n > 5 { k = k + 100; } if n >= 5 { k = k + 1000; } k", "Done 1010"},
		{"if true && n == 5 || panic { 4 } else { 6 }", "Done 4"},
		{"if n == 4 && panic { 4 } else { 6 }", "Done 6"},
		{"if n == 4 || n / 0 == 1 { 4 } else { 6 }", "Failed"},
	})
}

// P39: where code goes on.
func TestWays(t *testing.T) {
	rows(t, [][2]string{
		{"let mut i = 0; let mut s = 0; while i < n { i = i + 1; if i == 2 { next; } if i == 4 { break; } s = s * 10 + i; } s * 10 + i", "Done 134"},
		{"let mut i = 0; loop { i = i + 1; if i > n { break; } let mut k = 0; loop { k = k + 1; if k > i { break; } if k == 3 { next; } out(i * 10 + k); } } i", "Done 6 [11 21 22 31 32 41 42 44 51 52 54 55]"},
		{"if n == 5 { return 8; } 9", "Done 8"},
		{"{ let a = 1; { let a = a + 1; out(a); } out(a); } if n > 9 { } else { out(3); } 4", "Done 4 [2 1 3]"},
		{"match n { 0 => 1, -1 => 2, 5 => 3, _ => panic }", "Done 3"},
		{"match (n > 3, n) { (true, 4) => 1, (false, _) => 2, (true, k) => k * 10 }", "Done 50"},
		{"panic", "Failed"},
		{"fn f(n: int) -> int { if n == 0 { 0 } else { n + f(n - 1) } } fn main(n: int) -> int { f(n * 40) }", "Done 20100"},
		{"fn even(n: int) -> bool { if n == 0 { true } else { odd(n - 1) } } fn odd(n: int) -> bool { if n == 0 { false } else { even(n - 1) } } fn main(n: int) -> int { if even(n) { 1 } else { 2 } }", "Done 2"},
		{"fn f(a: int, b: bool, c: (int, int)) -> (int, bool) { (a + c.0 * 10 + c.1 * 100, !b) } fn main(n: int) -> int { let r = f(n, true, (n + 1, n + 2)); if r.1 { 0 } else { r.0 } }", "Done 765"},
		{"fn main(n: int) -> int { if n < 1 { 0 } else { main(n - 1) + 2 } }", "Done 10"},
		{"let x = if n > 3 { 4 } else { panic }; let y: int = match x { 4 => 6, _ => return 9 }; x + y", "Done 10"},
		{"fn none() { } fn main(n: int) -> int { none(); let u = none(); let v = (u, n); v.1 }", "Done 5"},
	})
}

// P39: tuples, structs and enums, their parts, and references to these.
func TestParts(t *testing.T) {
	rows(t, [][2]string{
		{"let mut t = (n, (true, n + 1), 3); t.1 = (false, 8); t.0 = t.1.1 + t.2; if t.1.0 { 0 } else { t.0 }", "Done 11"},
		{"struct A { x: int, y: B } copy struct B { u: bool, v: (int, int) } fn main(n: int) -> int { let mut a = make A { y: make B { v: (n, 2), u: true }, x: 7 }; let b = a.y; a.y.v.1 = 9; let r = &mut a.y; (*r).u = false; let s = &mut (*r).v.0; *s = *s + 1; if a.y.u { 0 } else { a.x * 1000 + a.y.v.0 * 100 + a.y.v.1 * 10 + b.v.1 } }", "Done 7692"},
		{"enum E { A, B(int, bool), C((int, int), int, int) } fn f(e: &E) -> int { match *e { E::A => 1, E::B(ref x, true) => *x, E::B(_, false) => 2, E::C((3, ref y), _, _) => *y, E::C(_, ref u, ref v) => *u * 10 + *v } } fn main(n: int) -> int { let mut e = E::A; let a = f(&e); e = E::B(n, true); let b = f(&e); match e { E::B(ref mut x, _) => { *x = 40; }, _ => { } } let c = f(&e); e = E::C((n, 1), 6, 7); let d = f(&e); let g = E::C((3, 9), 1, 1); a + b * 10 + c * 100 + d * 10000 + f(&g) * 1000000 }", "Done 9674051"},
		{"let x = n; let r = &x; let s = &r; let t = &s; ***t + **s + *r", "Done 15"},
		{"let mut x = n; { let mut r = &mut x; { let s = &mut r; **s = **s + 1; } *r = *r * 2; } x", "Done 12"},
		{"let mut b = boxed((n, boxed(2))); *(*b).1 = 8; (*b).0 = 3; let r = &mut *(*b).1; *r = *r + (*b).0; *(*b).1", "Done 11"},
		{"let mut a = (1, n); let mut b = (3, 4); let mut r = &mut a; if n > 3 { r = &mut b; } (*r).1 = 9; a.1 * 10 + b.1", "Done 59"},
		{"let o = Option::Some(Option::Some(n)); match o { Option::Some(Option::Some(k)) => k, Option::Some(Option::None) => 1, Option::None => 2 }", "Done 5"},
		{"fn f<'a>(a: &'a (int, int), first: bool) -> &'a int { if first { &(*a).0 } else { &(*a).1 } } fn main(n: int) -> int { let t = (n, 7); *f(&t, true) * 10 + *f(&t, n == 0) }", "Done 57"},
		{"let x: int; if n > 3 { x = 1; } else { x = 2; } x", "Done 1"},
	})
}

// P39: functions of traits, by types and by type parameters.
func TestTraits(t *testing.T) {
	rows(t, [][2]string{
		{"trait S { fn size(self: &Self) -> int; fn add(self: &mut Self, k: int); fn out_of(self: Self) -> int; } impl S for int { fn size(self: &int) -> int { *self } fn add(self: &mut int, k: int) { *self = *self + k; } fn out_of(self: int) -> int { self } } impl<T: S> S for Box<T> { fn size(self: &Box<T>) -> int { S::size(&**self) + 100 } fn add(self: &mut Box<T>, k: int) { S::add(&mut **self, k * 2); } fn out_of(self: Box<T>) -> int { S::out_of(unbox(self)) } } fn twice<T: S>(mut t: T) -> int { S::add(&mut t, 1); S::size(&t) * 1000 + S::out_of(t) } fn main(n: int) -> int { twice(n) + twice(boxed(boxed(n))) }", "Done 215015"},
		{"trait F { fn f(self: &Self) -> int; } struct G<T> { t: T } impl<T: F> F for G<T> { fn f(self: &G<T>) -> int { F::f(&(*self).t) * 10 } } impl F for bool { fn f(self: &bool) -> int { if *self { 1 } else { 2 } } } impl<A: F, B: F> F for (A, B) { fn f(self: &(A, B)) -> int { F::f(&(*self).0) * 100 + F::f(&(*self).1) } } fn main(n: int) -> int { F::f(&(make G { t: (n > 3, false) }, n > 9)) }", "Done 102002"},
	})
}

// P39: closures of each kind, what they capture, and when that ends.
func TestClosures(t *testing.T) {
	rows(t, [][2]string{
		{"let f = fn[n](x: int, y: bool) -> int { if y { n + x } else { n - x } }; f(1, true) * 10 + f(2, false)", "Done 63"},
		{"let f = fn[]() -> int { 4 }; f() + f()", "Done 8"},
		{"let mut s = n; { let mut f = fn mut[&mut s](x: int) -> int { *s = *s + x; *s }; f(1); f(2); } s", "Done 8"},
		{"let k = 3; let b = boxed(n); let f = fn[&k, b](x: int) -> int { *k * 100 + *b * 10 + x }; f(7)", "Done 357"},
		{"let b = d(3); let f = fn once[b](x: int) -> D { out(x); b }; let c = f(4); out(9); c.v", "Done 3 [4 9 3]"},
		{"let b = d(3); let c = d(4); let f = fn once[b, c]() -> int { 1 }; out(8); f()", "Done 1 [8 3 4]"},
		{"let b = d(3); let c = (z(), d(4)); let f = fn[b, c]() -> int { 1 }; out(8); f()", "Done 1 [8 3 77 4]"},
		{"let b = d(3); let f = fn once[b]() -> int { panic }; let e = d(4); f()", "Failed [3 4]"},
		{"let b = p(9); let c = d(1); let f = fn[b, c]() -> int { 1 }; let e = d(4); 0", "Failed [4 9 1]"},
		{"let w = w(n); let f = fn once[w, n](k: I) -> W { out(k.c.2 + n); w }; sum(&f(i(1)))", "Done 635 [14 5]"},
		{"let w = w(n); let mut f = fn mut[w](k: int) -> int { w.k = w.k + k; sum(&w) }; f(1); f(2)", "Done 638 [5]"},
		{"fn both<'a>(f: fn 'a(int) -> int, g: fn 'a(int) -> int) -> fn 'a(int) -> int { fn[f, g](x: int) -> int { g(f(x)) } } fn main(n: int) -> int { let k = 2; let h = both(fn[&k](x: int) -> int { x + *k }, fn[n](x: int) -> int { x * n }); let r = &h; (*r)(1) * 100 + h(2) }", "Done 1520"},
		{"let mut v = vec::<fn(int) -> int>(); push(&mut v, fn[n](x: int) -> int { x + n }); push(&mut v, fn[](x: int) -> int { x * 2 }); let mut x = 1; let mut i = 0; while i < 2 { x = (*at(&v, i))(x); i = i + 1; } x", "Done 12"},
		{"let f = fn[n](x: D) -> D { out(x.v + n); x }; let g = fn[f](x: D) -> D { f(f(x)) }; g(d(1)).v", "Done 1 [6 6 1]"},
		{"let f = fn once[](a: D, b: W, c: D) -> int { a.v + sum(&b) + c.v }; f(d(1), w(2), d(3))", "Done 270 [3 2 1]"},
		{"let f = fn[]() -> W { w(5) }; let g = fn once[f]() -> W { f() }; sum(&g())", "Done 635 [5]"},
	})
}

// P39: values of many words, and of none, wherever values go.
func TestWide(t *testing.T) {
	rows(t, [][2]string{
		{"let mut a = w(1); let mut b = w(2); let c = a; a = w(3); b.y = i(7); b.x.a.0 = 9; sum(&a) * 10000 + sum(&b) + sum(&c)", "Done 3890390 [1 2 3]"},
		{"let mut a = w(1); let r = &mut a; *r = w(2); (*r).d = d(4); let b = replace(r, w(3)); sum(&b) + sum(&a)", "Done 657 [1 2 4 3]"},
		{"let b = boxed(w(n)); let c = unbox(b); let o = Option::Some(c); sum(&or(o, w(1)))", "Done 635 [1 5]"},
		{"let mut v = vec::<W>(); let mut k = 0; while k < 9 { push(&mut v, w(k)); k = k + 1; } let x = pop(&mut v); (*at_mut(&mut v, 3)).k = 7; sum(at(&v, 2)) * 100000 + sum(at(&v, 3)) * 1000 + sum(&or(x, w(20)))", "Done 26697004 [20 8 0 1 2 3 4 5 6 7]"},
		{"let c = chan::<W>(); send(&c.0, w(1)); send(&c.0, w(2)); let a = recv(&c.1); sum(&or(a, w(3)))", "Done 143 [3 1 2]"},
		{"let c = chan::<W>(); let s = c.0; { let gone = c.1; } match send(&s, w(1)) { Option::Some(x) => sum(&x), Option::None => 0 }", "Done 143 [1]"},
		{"let a = rc(w(1)); let b = arc(w(2)); let c = cell(i(3)); set(&c, i(4)); let e = refcell(w(5)); { (*mut_get(&mut borrow_mut(&e))).k = 0; } let m = mutex(w(6)); sum(rc_get(&a)) + sum(arc_get(&b)) * 10 + get(&c).b.1 * 100000 + sum(ref_get(&borrow(&e))) * 10000000 + sum(&*lock_get(&mut lock(&m)))", "Done 1350803561 [6 5 2 1]"},
		{"let a = w(n); let h = spawn[a, n] -> (W, int) { (a, n) }; match join(h) { Option::Some(x) => sum(&x.0) + x.1, Option::None => 0 }", "Done 640 [5]"},
		{"let a = same(same(w(n))); let t = (a, w(1), 3); let b = t.0; sum(&b) + sum(&t.1) + t.2", "Done 781 [5 1]"},
		{"fn main(n: int) -> int { let u = (); let t = (u, (), n); let b = boxed(()); let r = rc(u); let c = cell(()); let mut v = vec::<()>(); push(&mut v, *b); push(&mut v, get(&c)); push(&mut v, *rc_get(&r)); pop(&mut v); let q = chan::<()>(); send(&q.0, u); let o = recv(&q.1); let s = view(&v, 1, 2); let e = sat(s, 0); len(&v) * 100 + slen(s) * 10 + match o { Option::Some(()) => t.2, Option::None => 0 } }", "Done 215"},
		{"let a = z(); let mut v = vec::<Z>(); push(&mut v, z()); push(&mut v, a); let b = boxed(z()); out(len(&v)); let x = pop(&mut v); let c = rc((z(), z())); out(1); let q = chan::<Z>(); send(&q.0, z()); let f = fn[x]() -> int { 3 }; f()", "Done 3 [2 1 77 77 77 77 77 77]"},
		{"let mut t = (z(), z(), 1); let a = t.1; if n > 3 { eat(t.0); out(1); t.0 = z(); } out(2); t.1 = a; t = (z(), z(), 2); out(3); t.2", "Done 2 [77 1 2 77 77 3 77 77]"},
		{"let h = spawn[] -> Z { z() }; let a = z(); let j = spawn[a] -> (Z, Z) { (a, z()) }; match join(j) { Option::Some(t) => { out(1); 3 }, Option::None => 4 }", "Done 3 [1 77 77 77]"},
	})
}
