package emit

import "testing"

// P39: Box, Vec, replace and out.
func TestOwned(t *testing.T) {
	rows(t, [][2]string{
		{"unbox(boxed(n))", "Done 5"},
		{"unbox(boxed(7))", "Done 7"},
		{"let mut b = boxed(n); *b = 7; let c = &b; **c", "Done 7"},
		{"let b = boxed(d(1)); let x = unbox(b); out(9); 0", "Done [9 1]"},
		{"let mut x = n; let y = replace(&mut x, 8); x * 10 + y", "Done 85"},
		{"let mut x = (d(1), d(2)); let y = replace(&mut x.0, d(3)); out(9); 0", "Done [9 1 3 2]"},
		{"let mut b = boxed(d(1)); let y = replace(&mut *b, d(2)); let e = replace(&mut b, boxed(d(3))); out(9); 0", "Done [9 2 1 3]"},
		{"out(n); out(0 - 3); let x = out(4); let t = (1, n); out(t.1); let r = &t; out((*r).0); 0", "Done [5 -3 4 5 1]"},
		{"let v = vec::<int>(); len(&v) + 1", "Done 1"},
		{"let mut v = vec::<int>(); push(&mut v, 4); push(&mut v, 6); len(&v) * 10 + *at(&v, 1)", "Done 26"},
		{"let mut v = vec::<bool>(); push(&mut v, true); push(&mut v, n == 0); if *at(&v, 1) { 1 } else { 2 }", "Done 2"},
		{"let mut v = fill(2); match pop(&mut v) { Option::Some(x) => x + len(&v), Option::None => 0 }", "Done 11"},
		{"let mut v = fill(0); match pop(&mut v) { Option::Some(x) => x, Option::None => 3 }", "Done 3"},
		{"let mut v = fill(3); pop(&mut v); push(&mut v, 7); *at(&v, 2) + len(&v)", "Done 10"},
		{"let mut v = fill(3); *at_mut(&mut v, 1) = 9; *at(&v, 0) + *at(&v, 1) + *at(&v, 2)", "Done 29"},
		{"let v = fill(100); let mut i = 0; let mut s = 0; while i < len(&v) { s = s + *at(&v, i); i = i + 1; } s", "Done 49500"},
		{"let mut v = vec::<(D, int, bool)>(); let mut i = 0; while i < 6 { push(&mut v, (d(i), i * 2, i > 2)); i = i + 1; } let x = pop(&mut v); let e = at(&v, 4); if (*e).2 { (*e).1 * 10 + (*e).0.v } else { 0 }", "Done 84 [5 0 1 2 3 4]"},
		{"*at(&fill(3), 3)", "Failed"},
		{"*at(&fill(3), 0 - 1)", "Failed"},
		{"*at_mut(&mut fill(3), 3)", "Failed"},
		{"*at_mut(&mut fill(3), 0 - 1)", "Failed"},
		{"*at_mut(&mut fill(3), 2)", "Done 20"},
		{"*at(&fill(0), 0)", "Failed"},
	})
}

// P39: slices.
func TestSlices(t *testing.T) {
	rows(t, [][2]string{
		{"slen(view(&fill(3), 1, 3)) * 10 + slen(view(&fill(3), 3, 3)) + slen(view(&fill(0), 0, 0))", "Done 20"},
		{"slen(view(&fill(3), 0, 4))", "Failed"},
		{"slen(view(&fill(3), 2, 1))", "Failed"},
		{"slen(view(&fill(3), 0 - 1, 1))", "Failed"},
		{"slen(view(&fill(3), 4, 4))", "Failed"},
		{"slen(view(&fill(3), 3, 3))", "Done"},
		{"*sat(view(&fill(3), 1, 3), 0) + *sat(view(&fill(3), 1, 3), 1)", "Done 30"},
		{"*sat(view(&fill(3), 1, 3), 2)", "Failed"},
		{"*sat(view(&fill(3), 1, 3), 0 - 1)", "Failed"},
		{"let v = fill(4); let p = cut(view(&v, 1, 4), 1); slen(p.0) * 1000 + slen(p.1) * 100 + *sat(p.0, 0) + *sat(p.1, 1)", "Done 1240"},
		{"let v = fill(4); let p = cut(view(&v, 1, 4), 0); let q = cut(p.1, 3); slen(p.0) + slen(q.1) + slen(q.0)", "Done 3"},
		{"slen(cut(view(&fill(3), 0, 3), 4).0)", "Failed"},
		{"slen(cut(view(&fill(3), 0, 3), 0 - 1).0)", "Failed"},
		{"let mut v = fill(3); let mut s = view_mut(&mut v, 1, 3); *mat(&mut s, 1) = 8; mlen(&s) * 100 + *at(&v, 2)", "Done 208"},
		{"let mut v = fill(3); let mut s = view_mut(&mut v, 1, 3); *mat(&mut s, 2)", "Failed"},
		{"let mut v = fill(3); let mut s = view_mut(&mut v, 1, 3); *mat(&mut s, 0 - 1)", "Failed"},
		{"let mut v = fill(3); let s = view_mut(&mut v, 1, 4); 0", "Failed"},
		{"let mut v = fill(3); let s = view_mut(&mut v, 2, 1); 0", "Failed"},
		{"let mut v = fill(3); let s = view_mut(&mut v, 0 - 1, 1); 0", "Failed"},
		{"let mut v = fill(3); let s = view_mut(&mut v, 0, 3); let p = cut_mut(s, 4); 0", "Failed"},
		{"let mut v = fill(3); let s = view_mut(&mut v, 0, 3); let p = cut_mut(s, 0 - 1); 0", "Failed"},
		{"let mut v = fill(4); { let p = cut_mut(view_mut(&mut v, 1, 4), 1); let mut a = p.0; let mut b = p.1; *mat(&mut a, 0) = 1; *mat(&mut b, 0) = 2; out(mlen(&b)); out(*mat(&mut a, 0) + *mat(&mut b, 0)); } *at(&v, 1) * 10 + *at(&v, 2)", "Done 12 [2 3]"},
		{"let mut v = vec::<(int, bool, int)>(); push(&mut v, (1, true, 2)); push(&mut v, (3, false, 4)); push(&mut v, (n, true, 6)); let s = cut(view(&v, 1, 3), 1).1; let e = sat(s, 0); if (*e).1 { (*e).0 * 10 + (*e).2 } else { 0 }", "Done 56"},
		{"let mut v = vec::<W>(); push(&mut v, w(1)); push(&mut v, w(2)); push(&mut v, w(3)); let mut s = cut_mut(view_mut(&mut v, 0, 3), 1).1; (*mat(&mut s, 1)).k = 7; *mat(&mut s, 0) = w(9); sum(at(&v, 1)) + sum(at(&v, 2))", "Done 1223 [2 1 9 3]"},
		{"fn f(s: &Slice<int>, k: int) -> int { *sat(*s, k) } fn main(n: int) -> int { let v = fill(3); let t = (1, view(&v, 1, 3)); f(&t.1, 1) + slen(t.1) }", "Done 22"},
	})
}

// P39: Rc and Arc.
func TestShared(t *testing.T) {
	rows(t, [][2]string{
		{"let a = rc(n); *rc_get(&a) + rc_count(&a)", "Done 6"},
		{"let a = rc(d(1)); let b = rc_clone(&a); let c = rc_clone(&b); rc_count(&a)", "Done 3 [1]"},
		{"let a = rc(d(1)); { let b = rc_clone(&a); out(7); } out(8); rc_count(&a)", "Done 1 [7 8 1]"},
		{"let a = rc(cell(n)); let b = rc_clone(&a); set(rc_get(&a), 8); get(rc_get(&b))", "Done 8"},
		{"let a = arc(n); let b = arc_clone(&a); *arc_get(&a) + *arc_get(&b)", "Done 10"},
		{"let a = arc(d(1)); { let b = arc_clone(&a); out(7); } out(8); 0", "Done [7 8 1]"},
		{"let a = (1, rc((2, n))); let r = &a; (*rc_get(&(*r).1)).1", "Done 5"},
		{"let mut v = vec::<Rc<D>>(); let a = rc(d(1)); let mut i = 0; while i < 6 { push(&mut v, rc_clone(&a)); i = i + 1; } pop(&mut v); rc_count(&a)", "Done 6 [1]"},
	})
}

// P39: cells and their guards.
func TestCells(t *testing.T) {
	rows(t, [][2]string{
		{"let c = cell(n); set(&c, get(&c) + 1); get(&c)", "Done 6"},
		{"let c = cell(n); let r = &c; let s = &c; set(r, 1); set(s, get(r) + 1); get(r)", "Done 2"},
		{"let c = cell((n, true, 2)); set(&c, (3, false, 4)); let t = get(&c); if t.1 { 0 } else { t.2 }", "Done 4"},
		{"let x = 1; let y = n; let c = cell(&x); set(&c, &y); *get(&c)", "Done 5"},
		{"let c = refcell(n); { let mut g = borrow_mut(&c); *mut_get(&mut g) = 7; } let g = borrow(&c); let h = borrow(&c); *ref_get(&g) + *ref_get(&h)", "Done 14"},
		{"let c = refcell(n); let g = borrow(&c); let h = borrow_mut(&c); 0", "Failed"},
		{"let c = refcell(n); let g = borrow(&c); { let h = borrow(&c); } let h = borrow_mut(&c); 0", "Failed"},
		{"let c = refcell(n); { let g = borrow(&c); let h = borrow(&c); } let h = borrow_mut(&c); 3", "Done 3"},
		{"let c = refcell(n); let g = borrow_mut(&c); let h = borrow(&c); 0", "Failed"},
		{"let c = refcell(n); let g = borrow_mut(&c); let h = borrow_mut(&c); 0", "Failed"},
		{"let c = refcell(n); { let g = borrow_mut(&c); } let h = borrow_mut(&c); 4", "Done 4"},
		{"let c = refcell(d(1)); { let mut g = borrow_mut(&c); *mut_get(&mut g) = d(2); } out(9); 0", "Done [1 9 2]"},
		{"let c = (1, refcell((n, d(3)))); let r = &c.1; { (*mut_get(&mut borrow_mut(r))).0 = 8; } let g = borrow(r); (*ref_get(&g)).0 * 10 + (*ref_get(&g)).1.v", "Done 83 [3]"},
		{"let c = refcell(n); let f = fn[&c]() -> int { let mut g = borrow_mut(c); let r = mut_get(&mut g); *r = *r + 1; *r }; f(); let e = f(); { let g = borrow(&c); out(*ref_get(&g)); f() }", "Failed [7]"},
		{"let a = refcell(n); let b = a; let g = borrow_mut(&b); 3", "Done 3"},
		{"let m = mutex(n); { let mut g = lock(&m); *lock_get(&mut g) = 8; } let mut g = lock(&m); *lock_get(&mut g)", "Done 8"},
		{"let m = mutex((d(1), n)); { let mut g = lock(&m); (*lock_get(&mut g)).0 = d(2); } let k = m; let mut g = lock(&k); (*lock_get(&mut g)).1", "Done 5 [1 2]"},
		{"let m = mutex(n); let g = lock(&m); let h = lock(&m); 0", "Stuck"},
	})
}

// P39: channels and handles in one thread, and what they have to say.
func TestChannels(t *testing.T) {
	rows(t, [][2]string{
		{"let c = chan::<int>(); send(&c.0, 4); send(&c.0, 5); let a = recv(&c.1); match recv(&c.1) { Option::Some(x) => x, Option::None => 0 }", "Done 5"},
		{"let c = chan::<int>(); let mut i = 0; let mut s = 0; while i < 12 { send(&c.0, i); if i % 3 == 2 { s = s * 10 + or(recv(&c.1), 50); } i = i + 1; } s * 10 + or(recv(&c.1), 50)", "Done 1234"},
		{"let c = chan::<int>(); let s = c.0; let r = c.1; send(&s, 4); eat(s); recv(&r); match recv(&r) { Option::Some(x) => x, Option::None => 3 }", "Done 3"},
		{"let c = chan::<int>(); recv(&c.1); 0", "Stuck"},
		{"let c = chan::<int>(); send(&c.0, 1); recv(&c.1); recv(&c.1); 0", "Stuck"},
		{"let c = chan::<D>(); let s = c.0; let r = c.1; send(&s, d(1)); send(&s, d(2)); eat(r); out(9); match send(&s, d(3)) { Option::Some(x) => x.v, Option::None => 0 }", "Done 3 [1 2 9 3]"},
		{"let c = chan::<D>(); let s = c.0; let r = c.1; send(&s, d(1)); eat(s); out(9); 0", "Done [9 1]"},
		{"let c = chan::<D>(); let s = sender_clone(&c.0); let r = c.1; let q = c.0; eat(q); send(&s, d(1)); match recv(&r) { Option::Some(x) => x.v, Option::None => 0 }", "Done 1 [1]"},
		{"let c = chan::<int>(); let s = sender_clone(&c.0); let q = c.0; let r = c.1; eat(q); recv(&r); 0", "Stuck"},
		{"let c = chan::<int>(); let s = sender_clone(&c.0); let q = c.0; let r = c.1; eat(q); eat(s); or(recv(&r), 8)", "Done 8"},
		// The channel itself stands in what waits in it.
		{"struct M { s: Option<Sender<M>>, d: D } fn main(n: int) -> int { let c = chan::<M>(); let s = c.0; let t = sender_clone(&s); send(&s, make M { s: Option::Some(t), d: d(1) }); send(&s, make M { s: Option::None, d: d(2) }); eat(s); out(9); 0 }", "Done [9 1 2]"},
		{"struct M { s: Option<Sender<M>>, d: D } fn main(n: int) -> int { let c = chan::<M>(); let r = c.1; let t = sender_clone(&c.0); send(&c.0, make M { s: Option::Some(t), d: d(1) }); eat(r); out(9); 0 }", "Done [1 9]"},
		{"match join(spawn[n] -> int { n * 2 }) { Option::Some(x) => x, Option::None => 0 }", "Done 10"},
		{"match join(spawn[n] -> D { d(n) }) { Option::Some(x) => x.v, Option::None => 0 }", "Done 5 [5]"},
		{"match join(spawn[n] -> int { let a = d(1); panic }) { Option::Some(x) => x, Option::None => 3 }", "Done 3 [1]"},
		{"let a = (d(1), n); match join(spawn[a] -> (int, D) { let b = a; (b.1, b.0) }) { Option::Some(x) => x.0, Option::None => 3 }", "Done 5 [1]"},
		{"let h = spawn[] -> int { 1 }; let o = Option::Some(h); match o { Option::Some(j) => or(join(j), 0), Option::None => 2 }", "Done 1"},
	})
}
