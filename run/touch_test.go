package run

import (
	"testing"

	"holdfast/api"
)

// P29: a thing must be there.
func TestDead(t *testing.T) {
	bodies(t, [][2]string{
		{"let r: &int; { let x = n; r = &x; } *r", "WrongDead"},
		{"let r: &mut int; { let mut x = n; r = &mut x; } *r = 1; 0", "WrongDead"},
		{"let r: &int; { let x = n; r = &x; } let s = &*r; 0", "WrongDead"},
		{"let r: &int; { let x = n; r = &x; } 3", "Done 3"},
		{"let r: &int; { let b = boxed(n); r = &*b; } *r", "WrongDead"},
		{"let b = boxed(n); let r = &*b; eat(unbox(b)); *r", "WrongDead"},
		{"let b = boxed(n); let r = &*b; let c = b; *r", "Done 5"},
		{"let r: &int; { let v = fill(2); r = at(&v, 1); } *r", "WrongDead"},
		{"let r: &Option<int>; { let o = Option::Some(n); r = &o; } match *r { Option::Some(_) => 1, Option::None => 2 }", "WrongDead"},
		{"let mut k = 0; let mut r = &n; while k < 2 { let x = k; if k > 0 { eat(*r); } r = &x; k = k + 1; } 0", "WrongDead"},
		{"let g: Ref<int>; { let c = refcell(n); g = borrow(&c); } 0", "WrongDead"},
		{"let f: fn() -> int; { let x = n; f = fn[&x]() -> int { *x }; } f()", "WrongDead"},
		{"let f = fn once[n]() -> int { n }; let r = &f; eat(f()); 3", "Done 3"},
	})
}

// P29: what is used must be there, all of it.
func TestHole(t *testing.T) {
	bodies(t, [][2]string{
		{"let b = boxed(n); let c = b; *b", "WrongHole"},
		{"let b = boxed(n); eat(b); eat(b); 0", "WrongHole"},
		{"let x: int; x", "WrongHole"},
		{"let p = (d(1), d(2)); eat(p.0); let q = p; 0", "WrongHole [1]"},
		{"let p = (d(1), d(2)); eat(p.0); let q = &p; 0", "WrongHole [1]"},
		{"let p = (d(1), d(2)); eat(p.0); let q = &p.1; (*q).v", "Done 2 [1 2]"},
		{"let p = (d(1), (d(2), d(3))); eat(p.1.0); let q = p.1; 0", "WrongHole [2]"},
		{"let p: (int, int); p.0 = 3; 0", "WrongHole"},
		{"let e = E::A(n); eat(e); match e { E::A(_) => 1, _ => 2 }", "WrongHole"},
		{"let mut x = d(1); let r = &mut x; let y = *r; let z = &*r; 0", "WrongHole"},
		{"let b: Box<int>; *b = 3; 0", "WrongHole"},
		{"let f = fn[]() -> int { 1 }; eat(f); f()", "WrongHole"},
		{"let f = fn[]() -> int { 1 }; let r = &f; eat(f); (*r)()", "WrongHole"},
		{"let b = boxed(n); let f = fn[b]() -> int { unbox(b) }; f() + f()", "WrongKin"},
		{"let b = boxed(n); let mut f = fn mut[b]() -> int { unbox(b) }; f() + f()", "WrongHole"},
		{"let b = boxed(n); let mut f = fn mut[b]() -> int { unbox(b) }; f()", "Done 5"},
		{"let b = boxed(d(n)); let mut f = fn mut[b]() -> int { eat(unbox(b)); 1 }; let k = f(); let g = fn once[f]() -> int { 2 }; g() + k", "Done 3 [5]"},
	})
}

// P29: what a reference leads to must be touched only by what comes from it, while it lasts.
func TestKin(t *testing.T) {
	bodies(t, [][2]string{
		// A write by a shared tag.
		{"let mut x = n; let r = &x; *r = 1; 0", "WrongKin"},
		{"let mut x = n; let r = &x; let s = &mut *r; *s", "Done 5"},
		{"let mut x = n; let r = &x; let s = &mut *r; *s = 1; 0", "WrongKin"},
		{"let mut x = n; let r = &mut x; let s = &*r; *s = 1; 0", "WrongKin"},
		// Another write, another read.
		{"let mut x = n; let r = &mut x; x = 3; *r", "WrongKin"},
		{"let mut x = n; let r = &x; x = 3; *r", "WrongKin"},
		{"let mut x = n; let r = &x; x = 3; let y = x; *r", "WrongKin"},
		{"let mut x = n; let r = &x; let y = x; *r", "Done 5"},
		{"let mut x = n; let r = &mut x; let y = x; *r", "WrongKin"},
		{"let mut x = n; let r = &mut x; let y = x; 3", "Done 3"},
		{"let mut x = n; let r = &mut x; *r = 2; let y = x; y", "Done 2"},
		{"let mut x = n; let r = &mut x; let s = &mut x; *s = 1; *r", "WrongKin"},
		{"let mut x = n; let r = &mut x; let s = &x; *s + *r", "WrongKin"},
		{"let mut x = n; let r = &x; let s = &x; *r + *s + *r", "Done 15"},
		{"let mut x = n; let r = &x; let s = &mut x; *s + *r", "Done 10"},
		{"let mut x = n; let r = &x; let s = &mut x; *r + *s", "WrongKin"},
		{"let mut x = n; let r = &x; let s = &mut x; *s = 3; *r", "WrongKin"},
		// What comes from a tag is no stranger to it, but the other way round.
		{"let mut x = n; let r = &mut x; let s = &mut *r; *s = 1; *r = 2; x", "Done 2"},
		{"let mut x = n; let r = &mut x; let s = &mut *r; *r = 2; *s", "WrongKin"},
		{"let mut x = n; let r = &mut x; let s = &mut *r; let u = &mut *s; *u = 1; *s = 2; *r = 3; x", "Done 3"},
		{"let mut x = n; let r = &mut x; let s = &*r; let u = &*r; *u + *s + *r", "Done 15"},
		{"let mut x = n; let r = &mut x; let s = &*r; *r + *s", "Done 10"},
		{"let mut x = n; let r = &mut x; let s = &*r; *r = 1; *s", "WrongKin"},
		{"let mut x = n; let r = &mut x; let s = &mut *r; let u = &mut *r; *s = 1; *u", "WrongKin"},
		{"let mut x = n; let r = &mut x; let s = &mut *r; x = 1; *s", "WrongKin"},
		// Paths that meet, and paths that do not.
		{"let mut p = (n, 2); let a = &mut p.0; let b = &mut p.1; *a = 1; *b = 2; *a + *b", "Done 3"},
		{"let mut p = (n, 2); let a = &mut p.0; p.1 = 3; *a + p.1", "Done 8"},
		{"let mut p = (n, 2); let a = &mut p.0; let q = p; *a", "WrongKin"},
		{"let mut p = (n, 2); let a = &p.0; let q = p; *a", "Done 5"},
		{"let mut p = (n, 2); let a = &p.0; p = (3, 4); *a", "WrongKin"},
		{"let mut p = (n, 2); let a = &mut p; p.1 = 3; (*a).0", "Done 5"},
		{"let mut p = (n, 2); let a = &mut p; p.1 = 3; let b = *a; b.0", "WrongKin"},
		{"let mut p = ((n, 1), 2); let a = &mut p.0; p.0.1 = 3; (*a).0", "Done 5"},
		{"let mut p = ((n, 1), 2); let a = &mut p.0; p.0.1 = 3; (*a).1", "WrongKin"},
		// The head is beside the parts, but part of the whole.
		{"let mut o = Option::Some(n); match o { Option::Some(ref mut x) => { match o { Option::Some(_) => { *x = 3; }, Option::None => { } } *x }, Option::None => 0 }", "Done 3"},
		{"let mut o = Option::Some(n); let r = &mut o; match o { Option::Some(_) => match *r { Option::Some(_) => 1, Option::None => 2 }, Option::None => 0 }", "WrongKin"},
		{"let mut o = Option::Some(n); let r = &mut o; match o { Option::Some(_) => { let p = *r; 1 }, Option::None => 0 }", "WrongKin"},
		{"let mut o = Option::Some(n); let r = &o; match o { Option::Some(_) => { let p = *r; 1 }, Option::None => 0 }", "Done 1"},
		{"let mut v = fill(2); let r = at_mut(&mut v, 0); let k = len(&v); *r = 3; *at(&v, 0)", "Done 3"},
		{"let mut v = fill(2); let r = at_mut(&mut v, 0); let s = at_mut(&mut v, 1); *s = 4; *r = 3; *at(&v, 0) + *at(&v, 1)", "Done 7"},
		{"let mut v = fill(2); let r = at(&v, 0); push(&mut v, 1); *r", "WrongKin"},
		{"let a = rc(cell(n)); let r = rc_get(&a); let b = rc_clone(&a); get(r) + rc_count(&b)", "Done 7"},
		// A reference is read where it leads on.
		{"let x = n; let mut r = &x; let q = &mut r; let y = *r; **q", "WrongKin"},
		{"let x = n; let mut r = &x; let q = &r; let y = *r; **q", "Done 5"},
		// Through a box, by no tag.
		{"let mut b = boxed(n); let r = &mut b; let s = &mut **r; *b = 1; *s", "WrongKin"},
		{"let mut b = boxed(n); let r = &mut b; *b = 1; **r = 2; *b", "WrongKin"},
		{"let mut b = boxed(n); let r = &b; *b = 1; **r", "Done 1"},
		{"let mut b = boxed(n); let r = &b; b = boxed(3); **r", "WrongKin"},
		{"let mut b = boxed(n); let r = &b; **r = 4; *b", "Done 4"},
	})
}

// P29: guards keep the shared tags that they come from out of the line, but not those that are mut.
func TestGuardedKin(t *testing.T) {
	bodies(t, [][2]string{
		{"let c = refcell(n); let r = &c; let s = &c; { let mut g = borrow_mut(r); *mut_get(&mut g) = 7; } *ref_get(&borrow(s))", "Done 7"},
		{"let c = refcell(n); let r = &c; { let mut g = borrow_mut(r); *mut_get(&mut g) = 7; } { let mut g = borrow_mut(&c); *mut_get(&mut g) = 8; } *ref_get(&borrow(r))", "Done 8"},
		{"let mut c = refcell(n); let r = &mut c; let g = borrow(&*r); let h = borrow(&c); let x = *ref_get(&h); *ref_get(&g)", "WrongKin"},
		{"let mut c = refcell(n); let r = &c; let g = borrow(&*r); let h = borrow(&c); let x = *ref_get(&h); *ref_get(&g)", "Done 5"},
		{"let mut c = refcell(n); let r = &mut c; let g = borrow(&*r); let h = borrow(&*r); let x = *ref_get(&h); *ref_get(&g)", "Done 5"},
		{"let mut c = refcell(n); let r = &c; let mut g = borrow_mut(r); c = refcell(2); 0", "WrongKin"},
		{"let mut c = refcell(n); let r = &c; let mut g = borrow_mut(r); let p = mut_get(&mut g); let q = mut_get(&mut g); *p = 1; *q", "WrongKin"},
		{"let c = refcell(n); let g = borrow(&c); *(&mut *ref_get(&g)) = 1; 0", "WrongKin"},
		{"let c = refcell(n); let g = borrow(&c); let p = ref_get(&g); let q = ref_get(&g); *p + *q + *p", "Done 15"},
		{"let c = refcell((n, 1)); let a = &c; let b = &c; { let mut e = borrow_mut(a); (*mut_get(&mut e)).0 = 1; } { let mut f = borrow_mut(b); *mut_get(&mut f) = (2, 2); } (*ref_get(&borrow(a))).0", "Done 2"},
		{"let m = mutex(n); let r = &m; let s = &m; { let mut g = lock(r); *lock_get(&mut g) = 7; } let mut g = lock(s); *lock_get(&mut g)", "Done 7"},
		{"let mut m = mutex(n); let r = &mut m; let mut g = lock(&*r); *lock_get(&mut g) = 7; let q = &m; eat(g); let mut h = lock(q); *lock_get(&mut h) = 8; eat(h); let mut i = lock(&*r); *lock_get(&mut i)", "WrongKin"},
	})
}

// P29: a value of another form.
func TestForm(t *testing.T) {
	bodies(t, [][2]string{
		{"let mut o = Option::Some(n); match o { Option::Some(ref mut x) => { o = Option::None; *x }, Option::None => 0 }", "WrongForm"},
		{"let mut v = fill(1); let r = at(&v, 0); pop(&mut v); *r", "WrongForm"},
		{"let mut v = fill(1); let r = at(&v, 0); pop(&mut v); push(&mut v, 2); *r", "WrongKin"},
		{"let mut v = fill(1); let r = at_mut(&mut v, 0); pop(&mut v); *r = 2; 0", "WrongForm"},
		{"let mut f = F::G((n, 1)); match f { F::G(ref x) => { f = F::B(1); (*x).0 }, _ => 0 }", "WrongForm"},
		{"let mut f = F::G((n, 1)); match f { F::G(ref x) => { f = F::G((2, 3)); (*x).0 }, _ => 0 }", "WrongKin"},
		{"let mut f = F::H(&n); match f { F::H(ref x) => { f = F::B(1); **x }, _ => 0 }", "WrongForm"},
		// A guard whose cell is none any more.
		{"let mut f = F::C(refcell(n)); match f { F::C(ref x) => { let g = borrow(x); f = F::B(1); 0 }, _ => 0 }", "WrongForm"},
		{"let mut f = F::C(refcell(n)); match f { F::C(ref x) => { let g = borrow(x); f = F::A(cell(1)); 0 }, _ => 0 }", "WrongForm"},
		{"let mut f = F::C(refcell(n)); match f { F::C(ref x) => { let g = borrow(x); f = F::C(refcell(1)); 0 }, _ => 0 }", "WrongKin"},
		{"let c = refcell(n); let g = borrow(&c); let e = c; 0", "WrongForm"},
		{"let m = mutex(n); let g = lock(&m); let e = m; 0", "WrongForm"},
		// The variant must be the same, but of a spot only the part is known.
		{"let mut e = E::A(n); match e { E::A(ref x) => { e = E::C(d(1), 2); let r = &*x; 3 }, _ => 0 }", "Done 3 [1]"},
		{"let mut e = E::C(d(1), n); match e { E::C(_, ref x) => { e = E::A(3); let r = &*x; 3 }, _ => 0 }", "WrongForm [1]"},
		{"let mut e = E::A(n); match e { E::A(ref x) => { e = E::B(boxed(3)); match *x { 3 => 1, _ => 2 } }, _ => 0 }", "WrongKin"},
	})
}

// P29: what two threads touch, one of both to write, they must have seen of one another. With these picks the thread goes first.
func TestRace(t *testing.T) {
	for _, row := range [][2]string{
		{"let mut x = n; let h = spawn[&mut x] -> int { *x = 9; 1 }; out(0); x", "WrongRace [0]"},
		{"let mut x = n; let h = spawn[&mut x] -> int { *x = 9; 1 }; join(h); x", "Done 9"},
		{"let mut x = n; let h = spawn[&x] -> int { *x }; out(0); let y = x; join(h); y", "Done 5 [0]"},
		{"let mut x = n; let h = spawn[&x] -> int { *x }; out(0); x = 3; join(h); x", "WrongRace [0]"},
		{"let h: Handle<int>; { let x = n; h = spawn[&x] -> int { *x }; out(0); } 3", "WrongRace [0]"},
		{"let mut x = n; let h = spawn[&x] -> int { *x }; out(0); 3", "Done 3 [0]"},
		{"let mut x = n; let h = spawn[&x] -> int { *x }; out(0); let y = x; x = 3; join(h); y", "WrongRace [0]"},
		{"let mut x = n; let h = spawn[&mut x] -> int { *x = 9; let y = *x; 1 }; out(0); x", "WrongRace [0]"},
		// By no tag.
		{"let b = boxed(fill(2)); let h = spawn[&b] -> int { push(&mut **b, 1); 1 }; out(0); let k = len(&*b); join(h); k", "WrongRace [0]"},
		{"let b = boxed(fill(2)); let h = spawn[&b] -> int { len(&**b) }; out(0); let k = len(&*b); join(h); k", "Done 2 [0]"},
		// Other parts.
		{"let mut x = (n, 2); let h = spawn[&mut x] -> int { (*x).0 = 1; (*x).1 = 2; 1 }; out(0); x.0", "WrongRace [0]"},
		{"let mut x = (n, 2); let h = spawn[&mut x] -> int { (*x).0 = 1; 1 }; out(0); let y = x.1; join(h); y", "Done 2 [0]"},
		{"let mut x = (n, 2); let h = spawn[&mut x] -> int { (*x).0 = 1; 1 }; out(0); let y = x; join(h); y.1", "WrongRace [0]"},
		{"let mut x = (n, 2); let h = spawn[&mut x] -> int { *x = (1, 1); 1 }; out(0); let y = x.1; join(h); y", "WrongRace [0]"},
		{"let mut x = Option::Some(n); let h = spawn[&mut x] -> int { match *x { Option::Some(ref mut y) => { *y = 3; 1 }, Option::None => 0 } }; out(0); match x { Option::Some(_) => { join(h); 1 }, Option::None => 0 }", "Done 1 [0]"},
		{"let mut x = Option::Some(n); let h = spawn[&mut x] -> int { *x = Option::None; 0 }; out(0); match x { Option::Some(_) => 1, Option::None => 0 }", "WrongRace [0]"},
		// Meetings at things that both know.
		{"let mut x = n; let a = arc(1); let b = arc_clone(&a); let h = spawn[&mut x, b] -> int { *x = 9; eat(b); 1 }; out(0); let c = arc_clone(&a); let y = x; join(h); y", "Done 9 [0]"},
		{"let mut x = n; let a = arc(1); let b = arc_clone(&a); let h = spawn[&mut x, b] -> int { eat(b); *x = 9; 1 }; out(0); let c = arc_clone(&a); let y = x; join(h); y", "WrongRace [0]"},
		{"let mut x = n; let m = mutex(0); let h = spawn[&mut x, &m] -> int { *x = 9; let g = lock(m); 1 }; out(0); let g = lock(&m); let y = x; eat(g); join(h); y", "Done 9 [0]"},
		{"let mut x = n; let m = mutex(0); let h = spawn[&mut x, &m] -> int { { let g = lock(m); } *x = 9; 1 }; out(0); let g = lock(&m); let y = x; eat(g); join(h); y", "WrongRace [0]"},
		{"let mut x = n; let m = (mutex(0), mutex(0)); let h = spawn[&mut x, &m] -> int { *x = 9; let g = lock(&(*m).0); 1 }; out(0); let g = lock(&m.1); let y = x; eat(g); join(h); y", "WrongRace [0]"},
		{"let mut x = n; let c = chan::<int>(); let s = c.0; let r = c.1; let h = spawn[&mut x, s] -> int { *x = 9; send(&s, 1); 1 }; out(0); recv(&r); let y = x; join(h); y", "Done 9 [0]"},
		{"let mut x = n; let c = chan::<int>(); let s = c.0; let r = c.1; let h = spawn[&mut x, s] -> int { *x = 9; eat(s); 1 }; out(0); recv(&r); let y = x; join(h); y", "Done 9 [0]"},
		{"let mut x = n; let c = chan::<int>(); let s = c.0; let r = c.1; let h = spawn[&mut x, r] -> int { *x = 9; eat(r); 1 }; out(0); send(&s, 1); let y = x; join(h); y", "Done 9 [0]"},
		// What tells, and a thread's first step, are meetings at no thing.
		{"let mut x = n; let h = spawn[&mut x] -> int { *x = 9; out(1); 1 }; out(0); out(0); x", "WrongRace [1 0 0]"},
		// By way of a third one.
		{"let mut x = n; let h = spawn[&mut x] -> int { let k = spawn[x] -> int { *x = 9; 1 }; join(k); 1 }; join(h); x", "Done 9"},
		{"let mut x = n; let h = spawn[&mut x] -> int { *x = 8; let k = spawn[x] -> int { *x = *x + 1; 1 }; join(k); 1 }; join(h); x", "Done 9"},
		{"let mut x = n; let h = spawn[&mut x] -> int { let k = spawn[x] -> int { *x = 9; 1 }; 1 }; join(h); out(0); out(0); x", "WrongRace [0 0]"},
		// What is touched atomically must have been seen too, but leaves no mark.
		{"let mut m = mutex(n); let h = spawn[&mut m] -> int { *m = mutex(4); 1 }; out(0); let g = lock(&m); 0", "WrongRace [0]"},
		{"let mut m = mutex(n); let h = spawn[&m] -> int { let g = lock(m); 1 }; out(0); let k = m; 0", "Done [0]"},
		{"let mut m = mutex(n); let h = spawn[&m] -> int { let mut g = lock(m); *lock_get(&mut g) = 3; 1 }; out(0); let k = m; 0", "WrongRace [0]"},
	} {
		p := program(t, within(row[0]))
		heldAll(t, row[0], p)
		if got := tell(held(t, row[0], p, 5, 3000, []int{0, 1, 1, 1, 1, 1, 1, 1, 1, 1, 1, 1}, false)); got != row[1] {
			t.Errorf("%s: %s, not %s", row[0], got, row[1])
		}
	}
}

// P29: a thread has seen what another one did ahead of a meeting, not what it did behind.
func TestSeen(t *testing.T) {
	body := "let mut x = n; let c = chan::<int>(); let s = c.0; let r = c.1; let h = spawn[&mut x, s] -> int { send(&s, 1); *x = 9; 1 }; out(0); recv(&r); let y = x; join(h); y"
	p := program(t, within(body))
	for _, c := range []struct {
		picks, want string
	}{
		// The thread begins, sends and writes; main takes what was sent.
		{"0 1 1 0 0 0", "WrongRace [0]"},
		// The thread drops its sender too ahead of that.
		{"0 1 1 1 0 0 0", "Done 9 [0]"},
	} {
		if got := tell(held(t, body, p, 5, 3000, numbers(c.picks), false)); got != c.want {
			t.Errorf("%s: %s, not %s", c.picks, got, c.want)
		}
	}
}

// P29: what a thread does behind the beginning of another one is not seen by that, what it did ahead of it is.
func TestSeenFromTheBeginning(t *testing.T) {
	bodies(t, [][2]string{
		{"let mut b = boxed(n); let h = spawn[&b] -> int { **b }; *b = 7; join(h); 0", "WrongRace"},
		{"let mut b = boxed(n); *b = 7; let h = spawn[&b] -> int { **b }; match join(h) { Option::Some(x) => x, Option::None => 0 }", "Done 7"},
		{"let mut b = boxed(n); let h = spawn[&b] -> int { **b }; let g = spawn[&b] -> int { **b }; join(h); join(g); *b", "Done 5"},
	})
}

// P29: a StepCase is of its variant. No text comes to another one there, so that code is changed.
func TestOtherVariant(t *testing.T) {
	body := "match E::C(d(1), 7) { E::C(_, y) => y, _ => 0 }"
	p := program(t, within(body))
	for n := range p.Fns[0].Code {
		for _, arg := range p.Fns[0].Code[n].Args {
			if steps := arg.Place.Steps; len(steps) == 1 && steps[0] == (api.Step{Kind: api.StepCase, N: 2, M: 1}) {
				steps[0].N = 1
			}
		}
	}
	if got := tell(held(t, body, p, 5, 1000, nil, false)); got != "WrongForm" {
		t.Error(got)
	}
}

// P29: what comes first is told: a thing that is gone, then kin, then a race.
func TestWhatComesFirst(t *testing.T) {
	for _, row := range [][2]string{
		{"let mut x = n; let h = spawn[&mut x] -> int { out(1); *x = 9; 1 }; x = 3; join(h); 0", "WrongKin [1]"},
		{"let r: &mut int; { let mut x = n; r = &mut x; x = 3; } *r = 1; 0", "WrongDead"},
		{"let mut x = (d(1), d(2)); let r = &mut x; eat(x.0); let y = *r; 0", "WrongHole [1]"},
		{"let mut o = Option::Some(d(n)); match o { Option::Some(ref mut x) => { o = Option::None; let y = *x; 1 }, Option::None => 0 }", "WrongForm [5]"},
	} {
		if got := tell(heldAll(t, row[0], program(t, within(row[0])))); got != row[1] {
			t.Errorf("%s: %s, not %s", row[0], got, row[1])
		}
	}
	// Operands are taken from left to right.
	for body, what := range map[string]int{
		"let b = boxed(1); eat(b); let r: &int; { let x = n; r = &x; } *b + *r": api.WrongHole,
		"let b = boxed(1); eat(b); let r: &int; { let x = n; r = &x; } *r + *b": api.WrongDead,
	} {
		if o := ran(t, body); o.What != what {
			t.Errorf("%s: %+v", body, o)
		}
	}
}
