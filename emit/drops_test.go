package emit

import "testing"

// P39: drops in their order, on each way out of a block.
func TestDrops(t *testing.T) {
	rows(t, [][2]string{
		{"let a = d(1); let b = (d(2), d(3)); let c = boxed(d(4)); d(5); out(6); n", "Done 5 [5 6 4 2 3 1]"},
		{"{ let a = d(1); { let b = d(2); } out(3); } let c = d(4); eat(c); out(5); 0", "Done [2 3 1 4 5]"},
		{"let a = d(1); if n > 3 { let b = d(2); return 7; } let c = d(3); 8", "Done 7 [2 1]"},
		{"let mut i = 0; while i < 4 { i = i + 1; let a = d(i); if i == 1 { next; } let b = d(i * 10); if i == 3 { break; } out(9); } 0", "Done [1 9 20 2 30 3]"},
		{"let mut i = 0; loop { let a = d(i); i = i + 1; { let b = d(i * 10); if i == n { return i; } } out(100); } 0", "Done 5 [10 100 0 20 100 1 30 100 2 40 100 3 50 4]"},
		{"let a = d(1); match n { 5 => { let b = d(2); out(8); }, _ => { } } let k = match d(3).v { 3 => { out(4); 5 }, _ => 6 }; k", "Done 5 [8 2 4 3 1]"},
		{"let mut a = d(1); a = d(2); a.v = 3; let b = a; a = d(4); out(5); 0", "Done [1 5 3 4]"},
		{"let a: D; let b = d(1); a = d(2); out(3); 0", "Done [3 1 2]"},
		{"let a: D; if n > 3 { a = d(1); } out(2); 0", "Done [2 1]"},
		{"let a: D; if n > 9 { a = d(1); } out(2); 0", "Done [2]"},
		{"let a = d(1); let b = d(2); if n > 3 { eat(a); } else { eat(b); } out(3); 0", "Done [1 3 2]"},
		{"let mut a = d(1); let mut i = 0; while i < 3 { if i == 1 { eat(a); out(20 + i); } else { out(10 + i); } a = d(i); i = i + 1; } out(9); 0", "Done [10 1 0 21 12 1 9 2]"},
		{"let mut v = vec::<Box<D>>(); push(&mut v, boxed(d(1))); push(&mut v, boxed(d(2))); *at_mut(&mut v, 0) = boxed(d(3)); out(9); 0", "Done [1 9 3 2]"},
		{"let mut a = (d(1), (d(2), d(3))); let r = &mut a; (*r).1 = (d(4), d(5)); (*r).1.0 = d(6); out(9); 0", "Done [2 3 4 9 1 6 5]"},
		{"let mut b = boxed((d(1), 2)); (*b).0 = d(3); let c = unbox(b); let e = c.0; out(c.1); 0", "Done [1 2 3]"},
	})
}

// P39: what has been moved away in part, on all ways or on some.
func TestPartlyMoved(t *testing.T) {
	rows(t, [][2]string{
		{"let p = (d(1), d(2)); let x = p.0; out(3); 0", "Done [3 1 2]"},
		{"let p = (d(1), d(2)); if n > 3 { let x = p.1; } out(7); 0", "Done [2 7 1]"},
		{"let mut p = (d(1), (d(2), (d(3), d(4)))); if n > 3 { eat(p.1.1.0); } if n > 4 { eat(p.0); p.0 = d(5); } if n > 9 { eat(p.1.0); } out(7); 0", "Done [3 1 7 5 2 4]"},
		{"let mut p = (d(1), (d(2), d(3))); eat(p.1.0); p = (d(4), (d(5), d(6))); out(7); eat(p.0); p = (d(8), (d(9), d(10))); out(11); 0", "Done [2 1 3 7 4 5 6 11 8 9 10]"},
		{"let mut p = (d(1), (d(2), d(3))); if n > 3 { eat(p.1.0); } p.1 = (d(5), d(6)); out(7); if n > 3 { eat(p.1); } p.1 = (d(8), d(9)); 0", "Done [2 3 7 5 6 1 8 9]"},
		{"struct A { a: D, b: B, c: Box<D> } struct B { x: D, y: int, z: D } fn main(n: int) -> int { let mut s = make A { a: d(1), b: make B { x: d(2), y: 3, z: d(4) }, c: boxed(d(5)) }; let t = s.b.z; s.b.y = 9; if n > 4 { eat(s.c); eat(s.b.x); } out(s.b.y); 0 }", "Done [5 2 9 4 1]"},
		{"let o = Option::Some((d(1), d(2))); match o { Option::Some((x, _)) => out(8), Option::None => out(9) } out(7); 0", "Done [8 1 7 2]"},
		{"let mut o = Option::Some((d(1), d(2))); match o { Option::Some((x, _)) => { out(8); }, Option::None => { } } o = Option::None; out(7); o = Option::Some((d(3), d(4))); out(6); 0", "Done [8 1 2 7 6 3 4]"},
		{"enum E { A(D, D), B(D, int, D), C } fn e(n: int) -> E { match n % 3 { 0 => E::A(d(1), d(2)), 1 => E::B(d(3), 4, d(5)), _ => E::C } } fn main(n: int) -> int { let mut i = 0; while i < n { let x = e(i); match x { E::A(a, _) => { out(20); }, E::B(_, k, b) => { if k > 3 { eat(b); } out(30); }, E::C => { out(40); } } out(9); i = i + 1; } 0 }", "Done [20 1 9 2 5 30 9 3 40 9 20 1 9 2 5 30 9 3]"},
		{"let p = (boxed(d(1)), vec::<D>(), rc(d(2)), d(3)); eat(p.2); if n > 3 { eat(p.0); } out(9); 0", "Done [2 1 9 3]"},
		{"struct H { a: D, r: Option<Box<H>> } fn main(n: int) -> int { let h = make H { a: d(1), r: Option::Some(boxed(make H { a: d(2), r: Option::None })) }; match h.r { Option::Some(b) => { let g = unbox(b); eat(g.a); out(8); }, Option::None => { } } out(9); 0 }", "Done [2 8 9 1]"},
		{"let p = (d(1), n, d(2)); let f = fn once[p]() -> D { let q = p; q.2 }; let x = f(); out(9); x.v", "Done 2 [1 9 2]"},
		// What has a Drop is not moved in part, but may be given in part.
		{"struct Q { a: D, b: D } impl Drop for Q { fn drop(self: &mut Q) { out((*self).a.v * 10 + (*self).b.v); } } fn main(n: int) -> int { let mut q = make Q { a: d(1), b: d(2) }; q.a = d(3); if n > 3 { q.b = d(4); } q = make Q { a: d(5), b: d(6) }; let r = &mut q; (*r).a = d(7); 0 }", "Done [1 2 34 3 4 5 76 7 6]"},
		// A Drop that changes which variant it is.
		{"enum E { A(D), B(D, D) } struct K { e: E } impl Drop for K { fn drop(self: &mut K) { out(8); (*self).e = E::B(d(2), d(3)); } } fn main(n: int) -> int { let k = make K { e: E::A(d(1)) }; 0 }", "Done [8 1 2 3]"},
	})
}

// P39: drops of each type that has something to be done, by themselves and within others.
func TestDropsOfTypes(t *testing.T) {
	rows(t, [][2]string{
		{"let a = boxed(boxed(d(1))); let b = boxed((d(2), boxed(d(3)))); 0", "Done [2 3 1]"},
		{"let mut v = vec::<Vec<D>>(); let mut i = 0; while i < 3 { push(&mut v, vec::<D>()); push(at_mut(&mut v, i), d(i)); push(at_mut(&mut v, i), d(i + 10)); i = i + 1; } pop(&mut v); out(9); 0", "Done [2 12 9 0 10 1 11]"},
		{"let a = rc((d(1), d(2))); let b = rc_clone(&a); eat(a); out(7); eat(b); out(8); 0", "Done [7 1 2 8]"},
		{"let a = arc(d(1)); let b = arc_clone(&a); eat(a); out(7); eat(b); out(8); 0", "Done [7 1 8]"},
		{"let a = cell(n); let b = refcell(d(1)); let c = mutex((d(2), d(3))); let e = refcell(refcell(boxed(d(4)))); 0", "Done [4 2 3 1]"},
		{"let c = chan::<D>(); send(&c.0, d(1)); send(&c.0, d(2)); let s = c.0; { let r = c.1; } out(7); 0", "Done [1 2 7]"},
		{"let c = chan::<D>(); send(&c.0, d(1)); send(&c.0, d(2)); let r = c.1; { let s = c.0; } out(7); 0", "Done [7 1 2]"},
		{"let c = chan::<Vec<D>>(); let mut v = vec::<D>(); push(&mut v, d(1)); send(&c.0, v); out(2); 0", "Done [2 1]"},
		{"let c = refcell(n); { let g = borrow(&c); let h = borrow(&c); } { let g = borrow_mut(&c); } let g = borrow(&c); let o = Option::Some(g); eat(o); let h = borrow_mut(&c); 3", "Done 3"},
		{"let m = mutex(n); { let g = lock(&m); } { let b = boxed(lock(&m)); } let g = Option::Some(lock(&m)); 3", "Done 3"},
		{"let a = d(1); let f = fn[a]() -> int { 1 }; let b = boxed(f); let c = d(2); let g = fn once[b, c]() -> int { 2 }; out(9); 0", "Done [9 1 2]"},
		{"let h = spawn[] -> D { d(1) }; let j = spawn[] -> D { d(2) }; eat(j); out(9); 0", "Done [9 1 2]"},
		{"enum L { Nil, Cons(D, Box<L>) } fn up(n: int) -> L { if n == 0 { L::Nil } else { L::Cons(d(n), boxed(up(n - 1))) } } fn main(n: int) -> int { let l = up(n * 4); out(99); 0 }", "Done [99 20 19 18 17 16 15 14 13 12 11 10 9 8 7 6 5 4 3 2 1]"},
		{"struct T { v: D, kids: Vec<T> } fn t(n: int) -> T { let mut v = vec::<T>(); let mut i = 0; while i < n { push(&mut v, t(i)); i = i + 1; } make T { v: d(n), kids: v } } fn main(n: int) -> int { let a = t(3); 0 }", "Done [3 0 1 0 2 0 1 0]"},
		{"struct G<T> { t: T, k: int } impl<T> Drop for G<T> { fn drop(self: &mut G<T>) { out((*self).k); } } fn main(n: int) -> int { let a = make G { t: n, k: 1 }; let b = make G { t: boxed(make G { t: n > 3, k: 2 }), k: 3 }; let c = make G { t: make G { t: make G { t: 1, k: 4 }, k: 5 }, k: 6 }; 0 }", "Done [6 5 4 3 2 1]"},
		// Types that lead to ever greater ones: no value of these comes about.
		{"struct A<T> { t: T, next_one: Option<Box<A<(T, T)>>> } fn main(n: int) -> int { let a = make A { t: (d(1), d(2)), next_one: Option::None }; let b = make A { t: d(3), next_one: Option::Some(boxed(a)) }; 0 }", "Done [3 1 2]"},
	})
}

// P39: drops while a panic goes out, and panics while something is dropped.
func TestPanics(t *testing.T) {
	rows(t, [][2]string{
		{"let a = d(1); { let b = d(2); panic }", "Failed [2 1]"},
		{"fn f(n: int, x: D) -> int { let y = d(n); if n == 0 { 1 / n } else { f(n - 1, d(n + 20)) + y.v } } fn main(n: int) -> int { let z = d(99); f(2, d(40)) }", "Failed [0 21 1 22 2 40 99]"},
		// What has been handed to a function is its own, what waits to be handed is the caller's.
		{"fn f(a: D, b: int) -> D { a } fn g(a: D, b: D, c: int) -> int { 1 } fn main(n: int) -> int { g(d(1), f(d(2), 3), n / (n - 5)) }", "Failed [2 1]"},
		{"let t = (d(1), d(2), n / (n - 5), d(3)); 0", "Failed [2 1]"},
		{"let p = (d(1), d(2)); let x = p.1; if n > 3 { panic } 0", "Failed [2 1]"},
		{"let mut a = d(1); eat(a); if n > 3 { panic } a = d(2); 0", "Failed [1]"},
		{"let a: D; let b: D; a = d(1); if n > 3 { panic } b = d(2); 0", "Failed [1]"},
		{"let mut v = vec::<D>(); push(&mut v, d(1)); push(&mut v, d(2)); let x = *at(&fill(2), n); push(&mut v, d(3)); 0", "Failed [1 2]"},
		// A panic in a Drop: what is left of the dropping is done, then the rest.
		{"let mut z = p(9); let a = d(1); z = p(2); 0", "Failed [9 1 2]"},
		{"let z = d(3); let a = (d(1), p(8), d(2)); 0", "Failed [1 8 2 3]"},
		{"let z = d(3); let a = (d(1), p(8), d(2)); eat(a.0); 0", "Failed [1 8 2 3]"},
		{"let z = d(3); let a = (d(1), (p(8), d(4)), d(2), d(5)); eat(a.2); out(7); 0", "Failed [2 7 1 8 4 5 3]"},
		{"let z = d(3); let mut a = (d(1), (p(8), d(4)), d(2), d(5)); eat(a.2); a = (d(10), (p(2), d(11)), d(12), d(13)); out(7); 0", "Failed [2 1 8 4 5 10 2 11 12 13 3]"},
		{"let z = d(3); let mut a = (d(1), (p(8), d(4))); eat(a.1.1); a.1 = (p(1), d(5)); out(7); 0", "Failed [4 8 1 1 5 3]"},
		{"let z = d(3); let mut b = boxed(p(7)); *b = p(2); out(9); 0", "Failed [7 2 3]"},
		{"let mut v = vec::<P>(); push(&mut v, p(1)); push(&mut v, p(9)); push(&mut v, p(2)); let w = d(4); 0", "Failed [4 1 9 2]"},
		{"let c = chan::<P>(); let s = c.0; let w = d(4); send(&s, p(9)); send(&s, p(1)); { let r = c.1; } out(3); 0", "Failed [9 1 4]"},
		{"let w = d(4); let a = rc((p(9), d(1))); let b = boxed((d(2), p(3))); 0", "Failed [2 3 9 1 4]"},
		{"struct Q { a: D, b: D } impl Drop for Q { fn drop(self: &mut Q) { let x = d(7); panic } } fn main(n: int) -> int { let z = d(3); let q = boxed(make Q { a: d(1), b: d(2) }); let y = d(4); 0 }", "Failed [4 7 1 2 3]"},
		{"let o = Option::Some((p(9), d(1))); match o { Option::Some((_, x)) => { out(3); }, Option::None => { } } out(4); 0", "Failed [3 1 4 9]"},
		{"fn f() -> int { let a = p(9); return 3; } fn main(n: int) -> int { let b = d(1); f() }", "Failed [9 1]"},
		// What a function was about to give is dropped too.
		{"fn f() -> D { let a = p(9); d(2) } fn main(n: int) -> int { let b = d(1); f().v }", "Failed [9 2 1]"},
		// A panic within a panic.
		{"let a = p(6); let b = p(7); 0", "Aborted [7 6]"},
		{"let a = (p(7), d(1), p(8)); 0", "Aborted [7 1 8]"},
		{"let a = p(6); n / (n - 5)", "Aborted [6]"},
		{"let a = d(1); let b = boxed(p(7)); let c = d(2); *at(&fill(0), 0)", "Aborted [2 7]"},
		{"let f = p(6); let g = fn once[f]() -> int { panic }; g()", "Aborted [6]"},
		// What panics while a panic goes out, but is no Drop.
		{"struct Q { v: int } impl Drop for Q { fn drop(self: &mut Q) { out(*at(&vec::<int>(), 0)); } } fn main(n: int) -> int { let q = make Q { v: 1 }; panic }", "Aborted"},
		{"struct Q { v: int } impl Drop for Q { fn drop(self: &mut Q) { out(10 / (*self).v); } } fn main(n: int) -> int { let q = make Q { v: 2 }; panic }", "Failed [5]"},
	})
}
