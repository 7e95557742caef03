package run

import "testing"

// P29: Box, Vec, replace and out.
func TestOwned(t *testing.T) {
	bodies(t, [][2]string{
		{"unbox(boxed(n))", "Done 5"},
		{"let mut b = boxed(n); *b = 7; *b", "Done 7"},
		{"let b = boxed(d(1)); let x = unbox(b); out(9); 0", "Done [9 1]"},
		{"let b = boxed(d(1)); let x = *b; let y = unbox(b); 0", "WrongHole"},
		{"let b = boxed((d(1), d(2))); let x = (*b).0; unbox(b); 0", "WrongHole"},
		{"let b = boxed((d(1), d(2))); let x = (*b).0; 0", "Done [1 2]"},
		{"let mut x = n; let y = replace(&mut x, 8); x * 10 + y", "Done 85"},
		{"let mut x = d(1); let y = replace(&mut x, d(2)); 0", "Done [1 2]"},
		{"let mut p = (d(1), d(2)); let r = &mut p; let x = p.0; let y = replace(r, (d(3), d(4))); 0", "WrongHole"},
		{"let mut p = (n, 2); let r = &mut p; let x = p.0; replace(r, (1, 1)).0", "WrongKin"},
		{"let x = n; replace(&mut *&x, 3)", "WrongKin"},
		{"out(n); out(0 - 3); let x = out(4); 0", "Done [5 -3 4]"},

		{"let v = vec::<int>(); len(&v) + 1", "Done 1"},
		{"let mut v = vec::<int>(); push(&mut v, 4); push(&mut v, 6); len(&v) * 10 + *at(&v, 1)", "Done 26"},
		{"let mut v = fill(2); match pop(&mut v) { Option::Some(x) => x + len(&v), Option::None => 0 }", "Done 11"},
		{"let mut v = fill(0); match pop(&mut v) { Option::Some(x) => x, Option::None => 3 }", "Done 3"},
		{"let mut v = fill(3); pop(&mut v); push(&mut v, 7); *at(&v, 2) + len(&v)", "Done 10"},
		{"let mut v = vec::<D>(); push(&mut v, d(1)); let x = *at_mut(&mut v, 0); let y = pop(&mut v); 0", "WrongHole"},
		{"let mut v = vec::<D>(); push(&mut v, d(1)); let x = *at_mut(&mut v, 0); out(len(&v)); let r = at(&v, 0); 0", "Done [1 1]"},
		{"let mut v = vec::<D>(); push(&mut v, d(1)); let x = *at(&v, 0); 0", "WrongKin"},
		{"let mut v = fill(3); *at_mut(&mut v, 1) = 9; *at(&v, 0) + *at(&v, 1) + *at(&v, 2)", "Done 29"},
		{"*at(&fill(3), 3)", "Failed"},
		{"*at(&fill(3), 0 - 1)", "Failed"},
		{"*at_mut(&mut fill(3), 3)", "Failed"},
		{"*at_mut(&mut fill(3), 2)", "Done 20"},
		{"let v = fill(3); let w = v; len(&v)", "WrongHole"},
		{"let v = fill(3); let r = &v; let w = v; len(r)", "WrongHole"},
		{"let mut v = fill(3); let r = &v; v = fill(1); len(r)", "WrongKin"},
		{"let mut v = fill(3); let r = &v; push(&mut v, 1); len(r)", "Done 4"},
		{"let mut v = fill(3); let r = &mut v; let k = len(&v); push(r, 1); 0", "WrongKin"},
	})
}

// P29: slices.
func TestSlices(t *testing.T) {
	bodies(t, [][2]string{
		{"slen(view(&fill(3), 1, 3)) * 10 + slen(view(&fill(3), 3, 3)) + slen(view(&fill(0), 0, 0))", "Done 20"},
		{"slen(view(&fill(3), 0, 4))", "Failed"},
		{"slen(view(&fill(3), 2, 1))", "Failed"},
		{"slen(view(&fill(3), 0 - 1, 1))", "Failed"},
		{"slen(view(&fill(3), 4, 4))", "Failed"},
		{"*sat(view(&fill(3), 1, 3), 0) + *sat(view(&fill(3), 1, 3), 1)", "Done 30"},
		{"*sat(view(&fill(3), 1, 3), 2)", "Failed"},
		{"*sat(view(&fill(3), 1, 3), 0 - 1)", "Failed"},
		{"let v = fill(4); let p = cut(view(&v, 1, 4), 1); slen(p.0) * 1000 + slen(p.1) * 100 + *sat(p.0, 0) + *sat(p.1, 1)", "Done 1240"},
		{"let v = fill(4); let p = cut(view(&v, 1, 4), 0); let q = cut(p.1, 3); slen(p.0) + slen(q.1) + slen(q.0)", "Done 3"},
		{"slen(cut(view(&fill(3), 0, 3), 4).0)", "Failed"},
		{"slen(cut(view(&fill(3), 0, 3), 0 - 1).0)", "Failed"},
		{"let mut v = fill(3); let mut s = view_mut(&mut v, 1, 3); *mat(&mut s, 1) = 8; mlen(&s) * 100 + *at(&v, 2)", "Done 208"},
		{"let mut v = fill(3); let mut s = view_mut(&mut v, 1, 3); *mat(&mut s, 2)", "Failed"},
		{"let mut v = fill(3); let s = view_mut(&mut v, 1, 4); 0", "Failed"},
		{"let mut v = fill(3); let s = view_mut(&mut v, 0, 3); let p = cut_mut(s, 4); 0", "Failed"},
		{"let mut v = fill(3); let p = cut_mut(view_mut(&mut v, 0, 3), 1); let mut a = p.0; let mut b = p.1; *mat(&mut a, 0) = 1; *mat(&mut b, 0) = 2; *mat(&mut a, 0) + *mat(&mut b, 0)", "Done 3"},
		{"let mut v = fill(3); let s = view_mut(&mut v, 0, 3); let r = s; mlen(&s)", "WrongHole"},
		// A slice's length is its own.
		{"let mut v = fill(3); let s = view(&v, 0, 3); pop(&mut v); slen(s)", "Done 3"},
		{"let mut v = fill(3); let s = view(&v, 0, 3); pop(&mut v); *sat(s, 2)", "WrongForm"},
		{"let mut v = fill(3); let s = view(&v, 0, 3); pop(&mut v); *sat(s, 1)", "WrongKin"},
		{"let mut v = fill(3); let mut s = view_mut(&mut v, 0, 3); let mut z = view_mut(&mut v, 0, 3); *mat(&mut z, 0) = 1; *mat(&mut s, 1) = 1; *mat(&mut s, 0)", "WrongKin"},
		{"let v = fill(2); let s = view(&v, 0, 2); let z = view(&v, 0, 2); *sat(s, 1) + *sat(z, 1) + *sat(s, 1)", "Done 30"},
		{"let mut v = fill(2); let mut s = view_mut(&mut v, 0, 2); let q = &mut s; let k = mlen(&s); *mat(q, 0)", "WrongKin"},
		// Tags of what is cut come from the slice's.
		{"let mut v = fill(3); let s = view(&v, 0, 3); *at_mut(&mut v, 0) = 5; *sat(cut(s, 1).0, 0)", "WrongKin"},
		{"let mut v = fill(3); let s = view(&v, 0, 3); *at_mut(&mut v, 1) = 5; *sat(cut(s, 1).1, 0)", "WrongKin"},
		{"let mut v = fill(3); let s = view(&v, 0, 3); let p = cut(s, 1); *at_mut(&mut v, 0) = 5; *sat(p.1, 0)", "Done 10"},
		{"let mut v = fill(3); let s = view(&v, 0, 3); let p = cut(s, 1); *at_mut(&mut v, 1) = 5; *sat(p.1, 0)", "WrongKin"},
		{"let v = fill(3); let mut s = cut_mut(view_mut(&mut v, 0, 3), 1).1; let r = mat(&mut s, 0); let q = sat(view(&v, 0, 3), 1); *q + *r", "WrongKin"},
		{"let s: Slice<int>; { let v = fill(2); s = view(&v, 0, 2); } out(slen(s)); *sat(s, 0)", "WrongDead [2]"},
	})
}

// P29: Rc and Arc.
func TestShared(t *testing.T) {
	bodies(t, [][2]string{
		{"let a = rc(n); *rc_get(&a) + rc_count(&a)", "Done 6"},
		{"let a = rc(d(1)); let b = rc_clone(&a); let c = rc_clone(&b); rc_count(&a)", "Done 3 [1]"},
		{"let a = rc(d(1)); { let b = rc_clone(&a); out(7); } out(8); rc_count(&a)", "Done 1 [7 8 1]"},
		{"let a = rc(cell(n)); let b = rc_clone(&a); set(rc_get(&a), 8); get(rc_get(&b))", "Done 8"},
		{"let a = rc(n); let b = a; rc_count(&a)", "WrongHole"},
		{"let r: &int; { let a = rc(n); r = rc_get(&a); } *r", "WrongDead"},
		{"let r: &int; let b: Rc<int>; { let a = rc(n); b = rc_clone(&a); r = rc_get(&a); } *r", "Done 5"},
		{"let mut a = rc(n); let r = &a; a = rc(3); rc_count(r)", "WrongKin"},
		{"let a = rc(n); *(&mut *rc_get(&a)) = 3; 0", "WrongKin"},
		{"let a = arc(n); let b = arc_clone(&a); *arc_get(&a) + *arc_get(&b)", "Done 10"},
		{"let a = arc(d(1)); { let b = arc_clone(&a); out(7); } out(8); 0", "Done [7 8 1]"},
		{"let a = arc(n); let r = arc_get(&a); eat(a); *r", "WrongDead"},
		{"let a = arc(n); let r = arc_get(&a); let b = a; *r", "Done 5"},
	})
}

// P29: cells and their guards.
func TestCells(t *testing.T) {
	bodies(t, [][2]string{
		{"let c = cell(n); set(&c, get(&c) + 1); get(&c)", "Done 6"},
		{"let c = cell(n); let r = &c; let s = &c; set(r, 1); set(s, get(r) + 1); get(r)", "Done 2"},
		{"let mut c = cell(n); let r = &c; c = cell(3); get(r)", "WrongKin"},
		{"let mut c = cell(n); let r = &c; c = cell(3); set(r, 1); 0", "WrongKin"},
		{"let c = cell(n); let r = &c; let e = c; get(r)", "WrongHole"},
		{"let r: &Cell<int>; { let c = cell(n); r = &c; } get(r)", "WrongDead"},
		{"let mut c = cell(n); let r = &mut c; let x = get(&c); get(&*r)", "Done 5"},
		{"let c = cell((n, 2)); set(&c, (3, 4)); get(&c).1", "Done 4"},
		{"let c = refcell(n); { let mut g = borrow_mut(&c); *mut_get(&mut g) = 7; } let g = borrow(&c); let h = borrow(&c); *ref_get(&g) + *ref_get(&h)", "Done 14"},
		{"let c = refcell(n); let g = borrow(&c); let h = borrow_mut(&c); 0", "Failed"},
		{"let c = refcell(n); let g = borrow(&c); { let h = borrow(&c); } let h = borrow_mut(&c); 0", "Failed"},
		{"let c = refcell(n); { let g = borrow(&c); let h = borrow(&c); } let h = borrow_mut(&c); 3", "Done 3"},
		{"let c = refcell(n); let g = borrow_mut(&c); let h = borrow(&c); 0", "Failed"},
		{"let c = refcell(n); let g = borrow_mut(&c); let h = borrow_mut(&c); 0", "Failed"},
		{"let c = refcell(n); { let g = borrow_mut(&c); } let h = borrow_mut(&c); 4", "Done 4"},
		{"let c = refcell(d(1)); { let mut g = borrow_mut(&c); *mut_get(&mut g) = d(2); } out(9); 0", "Done [1 9 2]"},
		{"let mut c = refcell(n); let r = &c; c = refcell(3); let g = borrow(r); 0", "WrongKin"},
		{"let c = refcell(n); let r = &c; let e = c; let g = borrow_mut(r); 0", "WrongHole"},
		{"let c = refcell(n); let g = borrow(&c); let h = g; *ref_get(&g)", "WrongHole"},
		{"let c = refcell(n); let mut g = borrow_mut(&c); let r = mut_get(&mut g); eat(g); *r", "Done 5"},
		{"let c = refcell(n); let mut g = borrow_mut(&c); let r = mut_get(&mut g); eat(g); let mut h = borrow_mut(&c); *mut_get(&mut h) = 1; *r", "WrongKin"},
		{"let m = mutex(n); { let mut g = lock(&m); *lock_get(&mut g) = 8; } let mut g = lock(&m); *lock_get(&mut g)", "Done 8"},
		{"let m = mutex(n); let g = lock(&m); let h = lock(&m); 0", "Stuck"},
		{"let mut m = mutex(n); let r = &m; m = mutex(3); let g = lock(r); 0", "WrongKin"},
		{"let m = mutex(n); let r = &m; let g = lock(&m); eat(m); let h = lock(r); 0", "WrongHole"},
		{"let r: &Mutex<int>; { let m = mutex(n); r = &m; } let h = lock(r); 0", "WrongDead"},
	})
}

// P29: channels and handles.
func TestChannels(t *testing.T) {
	bodies(t, [][2]string{
		{"let c = chan::<int>(); send(&c.0, 4); send(&c.0, 5); let a = recv(&c.1); match recv(&c.1) { Option::Some(x) => x, Option::None => 0 }", "Done 5"},
		{"let c = chan::<int>(); let s = c.0; let r = c.1; send(&s, 4); eat(s); recv(&r); match recv(&r) { Option::Some(x) => x, Option::None => 3 }", "Done 3"},
		{"let c = chan::<int>(); recv(&c.1); 0", "Stuck"},
		{"let c = chan::<D>(); let s = c.0; let r = c.1; send(&s, d(1)); send(&s, d(2)); eat(r); out(9); match send(&s, d(3)) { Option::Some(x) => x.v, Option::None => 0 }", "Done 3 [1 2 9 3]"},
		{"let c = chan::<D>(); let s = c.0; let r = c.1; send(&s, d(1)); eat(s); out(9); 0", "Done [9 1]"},
		{"let c = chan::<D>(); let s = sender_clone(&c.0); let r = c.1; let q = c.0; eat(q); send(&s, d(1)); match recv(&r) { Option::Some(x) => x.v, Option::None => 0 }", "Done 1 [1]"},
		{"let c = chan::<int>(); let s = sender_clone(&c.0); let q = c.0; let r = c.1; eat(q); recv(&r); 0", "Stuck"},
		{"let c = chan::<int>(); let s = c.0; let r = &s; eat(s); send(r, 1); 0", "WrongHole"},
		{"let c = chan::<int>(); let s = c.0; let r = &c.1; eat(c.1); recv(r); 0", "WrongHole"},
		{"match join(spawn[n] -> int { n * 2 }) { Option::Some(x) => x, Option::None => 0 }", "Done 10"},
		{"match join(spawn[n] -> D { d(n) }) { Option::Some(x) => x.v, Option::None => 0 }", "Done 5 [5]"},
		{"match join(spawn[n] -> int { let a = d(1); panic }) { Option::Some(x) => x, Option::None => 3 }", "Done 3 [1]"},
		{"let h = spawn[] -> int { 1 }; let g = h; join(h); 0", "WrongHole"},
	})
}
