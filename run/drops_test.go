package run

import "testing"

// P29: what is dropped, and in which order.
func TestDrops(t *testing.T) {
	bodies(t, [][2]string{
		{"let a = d(1); let b = (d(2), d(3)); let c = boxed(d(4)); 0", "Done [4 2 3 1]"},
		{"let a = d(1); { let b = d(2); } out(9); 0", "Done [2 9 1]"},
		{"let a = ((d(1), 2), (3, (d(4), d(5)))); 0", "Done [1 4 5]"},
		{"let e = E::C(d(1), 2); 0", "Done [1]"},
		{"let c = refcell((d(1), d(2))); let m = mutex(d(3)); 0", "Done [3 1 2]"},
		{"let mut v = vec::<D>(); push(&mut v, d(1)); push(&mut v, d(2)); let x = pop(&mut v); push(&mut v, d(3)); 0", "Done [2 1 3]"},
		{"let a = (d(1), d(2), d(3)); eat(a.1); out(9); 0", "Done [2 9 1 3]"},
		{"let b = boxed(boxed(d(1))); let x = *b; out(9); 0", "Done [9 1]"},
		// Data with a Drop, then its parts, the first one first.
		{"let r = make R { d: d(1), b: boxed(d(2)) }; 0", "Done [100 1 2]"},
		{"let r = (make R { d: d(1), b: boxed(d(2)) }, d(3)); 0", "Done [100 1 2 3]"},
		{"let r = make R { d: d(1), b: boxed(d(2)) }; eat(r.d); out(9); 0", "Done [1 9 100 2]"},
		{"let q = make Q { d: d(1), v: 2 }; 0", "Done [50 1]"},
		// Closures and what they have captured.
		{"let a = d(1); let b = d(2); let f = fn[b, a]() -> int { 1 }; let c = d(3); 0", "Done [3 2 1]"},
		// Rc: the last owner.
		{"let a = rc(d(1)); let b = rc_clone(&a); eat(a); out(8); eat(b); out(9); 0", "Done [8 1 9]"},
		{"let a = arc((d(1), d(2))); let b = arc_clone(&a); eat(b); out(8); 0", "Done [8 1 2]"},
		{"let a = rc(rc(d(1))); let b = rc_clone(rc_get(&a)); eat(a); out(8); 0", "Done [8 1]"},
		// Guards.
		{"let c = refcell(n); { let g = borrow(&c); let h = borrow(&c); eat(g); eat(h); } let k = borrow_mut(&c); 1", "Done 1"},
		{"let c = refcell(n); let g = borrow_mut(&c); eat(g); let h = borrow_mut(&c); 1", "Done 1"},
		{"let m = mutex(n); eat(lock(&m)); eat(lock(&m)); 1", "Done 1"},
		// Channels and handles.
		{"let c = chan::<D>(); send(&c.0, d(1)); send(&c.0, d(2)); out(9); 0", "Done [9 1 2]"},
		{"let c = chan::<(D, D)>(); send(&c.0, (d(1), d(2))); eat(c.1); out(9); eat(c.0); 0", "Done [1 2 9]"},
		{"let c = chan::<Sender<int>>(); let e = chan::<int>(); send(&c.0, e.0); eat(c.1); match recv(&e.1) { Option::Some(_) => 1, Option::None => 2 }", "Done 2"},
		{"let h = spawn[] -> D { d(1) }; out(8); join(spawn[] -> int { 1 }); out(9); 0", "Done [8 9 1]"},
		{"{ spawn[] -> D { d(1) }; } out(9); 0", "Done [9 1]"},
	})
}

// P29: panics that leave a Drop.
func TestPanicsInDrops(t *testing.T) {
	bodies(t, [][2]string{
		{"let a = d(1); let b = p(6); let c = d(3); 0", "Failed [3 6 1]"},
		{"let a = d(1); let b = p(5); 0", "Done [5 1]"},
		{"let mut z = p(9); let a = d(1); z = p(2); 0", "Failed [9 1 2]"},
		{"let a = p(6); let b = p(7); 0", "Aborted [7 6]"},
		{"let a = p(6); panic", "Aborted [6]"},
		// What is to be dropped with it is dropped still; then the call goes on where it ends its locals.
		{"let a = (p(6), d(1)); let b = 3; 0", "Failed [6 1]"},
		{"let a = (d(1), p(6), d(2)); let b = d(4); let c = boxed(a); out(9); 0", "Failed [9 1 6 2 4]"},
		{"let a = (p(6), p(7), d(1)); 0", "Aborted [6 7]"},
		{"let a = (p(6), p(2), d(1)); 0", "Failed [6 2 1]"},
		// The parts of data whose Drop a panic has left.
		{"let q = make Q { d: d(1), v: 6 }; let a = d(2); 0", "Failed [2 50 1]"},
		{"let q = (make Q { d: d(1), v: 6 }, d(3)); let a = d(2); 0", "Failed [2 50 1 3]"},
		{"let q = make Q { d: d(1), v: 6 }; panic", "Aborted"},
		// Within calls.
		{"let a = d(1); eat(p(6)); out(9); 0", "Failed [6 1]"},
		{"let a = d(1); let f = fn once[]() -> D { let x = p(6); d(2) }; let b = f(); out(9); 0", "Failed [6 2 1]"},
		{"let mut v = vec::<P>(); push(&mut v, p(1)); push(&mut v, p(6)); push(&mut v, p(2)); let a = d(3); eat(v); out(9); 0", "Failed [1 6 2 3]"},
		// In threads.
		{"let h = spawn[] -> int { let a = p(6); 1 }; match join(h) { Option::Some(x) => x, Option::None => 7 }", "Done 7 [6]"},
		{"{ spawn[] -> P { p(9) }; } 3", "Done 3 [9]"},
		{"{ spawn[] -> (P, D) { (p(9), d(1)) }; } 3", "Done 3 [9 1]"},
		{"{ spawn[] -> (P, P) { (p(9), p(8)) }; } 3", "Aborted 3 [9 8]"},
		{"let h = spawn[] -> P { p(9) }; join(spawn[] -> int { 1 }); let a = d(1); eat(h); out(2); 0", "Failed [9 1]"},
		{"let m = mutex(n); let a = arc(m); let b = arc_clone(&a); join(spawn[b] -> int { let g = lock(arc_get(&b)); let x = p(6); 1 }); let g = lock(arc_get(&a)); 4", "Done 4 [6]"},
	})
}

// P29: what a Drop does with what it is given.
func TestWhatDropsDo(t *testing.T) {
	for _, row := range [][3]string{
		{"struct S { b: Box<int>, d: D } impl Drop for S { fn drop(self: &mut S) { out(*(*self).b); *(*self).b = 3; } }", "let s = make S { b: boxed(n), d: d(1) }; 0", "Done [5 1]"},
		// A part that it has taken is dropped by it, not behind it.
		{"struct S { d: D, e: D } impl Drop for S { fn drop(self: &mut S) { eat((*self).e); out(7); } }", "let s = make S { d: d(1), e: d(2) }; 0", "Done [2 7 1]"},
		// A part that is not there.
		{"struct S { d: D, e: D } impl Drop for S { fn drop(self: &mut S) { out((*self).e.v); } }", "let s = make S { d: d(1), e: d(2) }; eat(s.e); 0", "WrongHole [2]"},
		// Another value in its place.
		{"struct S { d: D, e: D } impl Drop for S { fn drop(self: &mut S) { eat(replace(&mut (*self).d, d(9))); } }", "let s = make S { d: d(1), e: d(2) }; 0", "Done [1 9 2]"},
		// What it leads to is gone when it is over.
		{"struct S { c: Rc<Cell<Option<&'static int>>>, v: int } impl Drop for S { fn drop(self: &mut S) { set(rc_get(&(*self).c), Option::Some(&(*self).v)); } }", "let c = rc(cell(Option::None::<&int>)); { let s = make S { c: rc_clone(&c), v: 3 }; } match get(rc_get(&c)) { Option::Some(x) => *x, Option::None => 0 }", "WrongDead"},
		// A Drop that locks, sends and spawns.
		{"struct S { s: Sender<int> } impl Drop for S { fn drop(self: &mut S) { send(&(*self).s, 4); } }", "let c = chan::<int>(); { let s = make S { s: c.0 }; } match recv(&c.1) { Option::Some(x) => x, Option::None => 0 }", "Done 4"},
		{"struct S { v: int } impl Drop for S { fn drop(self: &mut S) { let k = (*self).v; join(spawn[k] -> int { out(k); 1 }); } }", "let s = make S { v: 3 }; 0", "Done [3]"},
		{"struct S { m: Arc<Mutex<int>> } impl Drop for S { fn drop(self: &mut S) { let g = lock(arc_get(&(*self).m)); out(1); } }", "let a = arc(mutex(0)); let g = lock(arc_get(&a)); let s = make S { m: arc_clone(&a) }; 0", "Stuck"},
		{"enum G { A(D, int), B } impl Drop for G { fn drop(self: &mut G) { match *self { G::A(ref x, y) => { out(y); }, G::B => { out(8); } } } }", "let a = G::A(d(1), 2); let b = G::B; 0", "Done [8 2 1]"},
	} {
		text := "mod main { " + items + row[0] + " fn main(n: int) -> int { " + row[1] + " } }"
		if got := tell(heldAll(t, row[1], program(t, text))); got != row[2] {
			t.Errorf("%s: %s: %s, not %s", row[0], row[1], got, row[2])
		}
	}
}
