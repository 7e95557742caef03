package borrow

import (
	"strings"
	"testing"

	"holdfast/api"
)

// endings are bodies of main at whose end something is still lent: the fault is at the block.
func endings(t *testing.T, all ...string) {
	t.Helper()
	for _, body := range all {
		judged(t, api.ErrLoan, strings.TrimSuffix(before, "{ ")+"@{ "+body+behind)
	}
}

// P24, P26: what is used or put keeps its loans.
func TestUseAndPut(t *testing.T) {
	bodies(t, api.ErrLoan,
		"let mut x = n; let r = &x; let s = r; x @= 2; *s",
		"let mut x = n; let r = &mut x; let s = r; x @= 2; *s",
		"let mut x = n; let mut r = &n; r = &x; x @= 2; *r",
		"let mut x = n; let mut p = (&n, boxed(1)); p = (&x, boxed(2)); x @= 2; *p.0",
		"let mut x = n; let mut p = (&n, boxed(1)); p.0 = &x; x @= 2; *p.0",
		"let mut x = n; let mut b = boxed(&n); *b = &x; x @= 2; **b",
		"let mut x = n; let mut r = &n; let q = &mut r; *q = &x; x @= 2; *r",
		"let mut x = n; let r = &x; let p = (1, r); let q = p.1; x @= 2; *q",
		"let mut x = n; let h = make H { r: &x }; let q = h.r; x @= 2; *q",
		"let mut x = n; let r = &x; let q = &r; let s = *q; x @= 2; *s",
		"let mut x = n; match Option::Some(&x) { Option::Some(r) => { x @= 2; *r }, Option::None => 1 }",
		"let mut x = n; match (&x, 1) { (r, 1) => { x @= 2; *r }, _ => 1 }",
		"let mut x = n; let r = if n > 1 { &n } else { &x }; x @= 2; *r",
		"let mut x = n; let r = { let y = 1; &x }; x @= 2; *r",
	)
	bodies(t, api.OK,
		"let mut x = n; let mut r = &x; r = &n; x = 2; *r",
		"let mut x = n; let mut y = n; let r = &x; let s = &y; y = *r; x = 2; n",
		"let mut x = n; let r = &x; let s = *r; x = 2; s",
	)
}

// P24, P26: what is made keeps the loans of its parts, and so do calls as signatures say.
func TestMadeAndCalled(t *testing.T) {
	bodies(t, api.ErrLoan,
		"let mut x = n; let p = (1, &x); x @= 2; *p.1",
		"let mut x = n; let p = (&n, &x); x @= 2; *p.0", // a local that is used is used whole
		"let mut x = n; let h = make H { r: &x }; x @= 2; *h.r",
		"let mut x = n; let w = make W { x: &x }; x @= 2; *w.x",
		"let mut x = n; let e = E::A(&x, 1); x @= 2; eat(e); n",
		"let mut x = n; let o = Option::Some(Option::Some(&x)); x @= 2; eat(o); n",
		"let mut x = n; let r = big(&n, &x); x @= 2; *r",
		"let mut x = n; let r = one(&x, &n); x @= 2; *r",
		"let mut x = n; let r = long(&n, &x); x @= 2; *r",
		"let mut x = n; let r = id(&x); x @= 2; *r",
		"let mut x = n; let r = id((1, make H { r: &x })); x @= 2; eat(r); n",
		"let mut x = n; let f = tied(&n, &x); x @= 2; f()",
		"let mut x = n; let f = tied(&x, 1); x @= 2; f()",
		"let mut x = n; let r = pass(&mut x); x @= 2; *r = 1; n",
		"let mut x = n; let mut r = &n; put(&mut r, &x); x @= 2; *r",
		"let mut x = n; let r = Tr::first(&x, &n); x @= 2; *r",
		"let mut x = n; let r = Tr::same(&x); x @= 2; *r",
		"let x = n; @let r = Tr::first(&&x, &n); *r",
		"let r = @{ let x = n; big(&n, &x) }; *r",
	)
	bodies(t, api.OK,
		"let mut x = n; let r = one(&n, &x); x = 2; *r",
		"let mut x = n; let y = *big(&n, &x); x = 2; y",
		"let mut x = n; let y = Tr::get(&x, &x); x = 2; y",
		"let mut x = n; let r = Tr::first(&n, &x); x = 2; *r",
		"let mut x = n; let r = &n; { let mut s = r; put(&mut s, &x); } x = 2; *r",
		"let r = { let x = n; one(&n, &x) }; *r",
		"let mut x = n; eat(&x); x = 2; n",
		"still(n); still(boxed(n)); n",
	)
	endings(t, "let x = n; ever(&x)", "let x = n; still(&x); n", "let x = n; still((1, make H { r: &x })); n")
	// What is lent for ever may still be read.
	judged(t, api.ErrLoan, strings.Replace(before, "fn main", "@fn main", 1)+"let x = ever(&n); n"+behind)
}

// P24, P26: what std's functions say of lifetimes.
func TestStd(t *testing.T) {
	bodies(t, api.ErrLoan,
		"let mut v = vec::<int>(); let r = at(&v, 0); push(@&mut v, 1); *r",
		"let mut v = vec::<int>(); push(&mut v, len(@&v)); n",
		"let mut v = vec::<int>(); let r = at_mut(&mut v, 0); len(@&v); *r",
		"let mut v = vec::<int>(); let s = view(&v, 0, 1); push(@&mut v, 1); slen(s)",
		"let mut v = vec::<int>(); let s = cut(view(&v, 0, 1), 0); push(@&mut v, 1); slen(s.1)",
		"let mut v = vec::<int>(); let r = sat(view(&v, 0, 1), 0); push(@&mut v, 1); *r",
		"let mut v = vec::<int>(); let s = view_mut(&mut v, 0, 1); let k = len(@&v); mlen(&s)",
		"let mut v = vec::<int>(); let mut s = view_mut(&mut v, 0, 1); let r = mat(&mut s, 0); mlen(@&s); *r = 1; n",
		"let mut v = vec::<int>(); let mut s = cut_mut(view_mut(&mut v, 0, 1), 1); let r = mat(&mut s.0, 0); mlen(@&s.0); *r = 1; n",
		"let mut x = n; let mut v = vec::<&int>(); push(&mut v, &x); x @= 2; **at(&v, 0)",
		"let mut x = n; let mut v = vec::<&int>(); push(&mut v, &x); let o = pop(&mut v); x @= 2; eat(o); n",
		"let mut x = n; let b = boxed(&x); x @= 2; **b",
		"let mut x = n; let r = unbox(boxed(&x)); x @= 2; *r",
		"let mut x = n; let a = rc(&x); let b = rc_clone(&a); x @= 2; **rc_get(&b)",
		"let a = rc(n); let r = rc_get(&a); eat(@a); *r",
		"let a = arc(n); let r = arc_get(&a); eat(@a); *r",
		"let mut x = n; let c = cell(&n); set(&c, &x); x @= 2; *get(&c)",
		"let mut x = n; let mut r = &n; replace(&mut r, &x); x @= 2; *r",
		"let mut x = n; let mut r = &x; let s = replace(&mut r, &n); x @= 2; *s",
		"let c = refcell(n); let g = borrow(&c); eat(@c); n",
		"let c = refcell(n); let g = borrow(&c); let r = ref_get(&g); eat(@g); *r",
		"let c = refcell(n); let mut g = borrow_mut(&c); let r = mut_get(&mut g); ref_get(&borrow(&c)); eat(@g); *r = 1; n",
		"let m = mutex(n); let g = lock(&m); eat(@m); n",
		"let m = mutex(n); let mut g = lock(&m); let r = lock_get(&mut g); lock_get(@&mut g); *r = 1; n",
		"let mut x = n; let p = chan::<&int>(); send(&p.0, &x); x @= 2; recv(&p.1); n",
		"let mut x = n; let p = chan::<&int>(); let q = sender_clone(&p.0); send(&q, &x); x @= 2; recv(&p.1); n",
		"let mut x = n; let p = chan::<&int>(); let o = send(&p.0, &x); x @= 2; eat(o); n",
	)
	bodies(t, api.OK,
		"let mut v = vec::<int>(); let r = *at(&v, 0); push(&mut v, 1); r",
		"let c = refcell(n); { let g = borrow(&c); } eat(c); n",
		"let c = refcell(n); { let mut g = borrow_mut(&c); *mut_get(&mut g) = 2; } eat(c); n",
		"let m = mutex(n); { let mut g = lock(&m); *lock_get(&mut g) = 2; } eat(m); n",
		"let mut x = n; let p = chan::<&int>(); send(&p.0, &x); x = 2; n",
		"let mut x = n; let mut v = vec::<&int>(); push(&mut v, &x); x = 2; n",
		"let mut v = vec::<int>(); let mut s = cut_mut(view_mut(&mut v, 0, 1), 1); let r = mat(&mut s.0, 0); let q = mat(&mut s.1, 0); *r = 1; *q = 2; n",
		"out(n); let h = spawn[n] -> int { n }; join(h); n",
	)
}

// P24, P26: what closures and threads capture, what closures take and give.
func TestClosures(t *testing.T) {
	const mk = "mod main { fn mk<T>() -> fn 'static(T) -> T { fn[](x: T) -> T { x } } fn last<T>() -> fn 'static once(T) -> T { fn once[](x: T) -> T { x } } fn main(n: int) -> int { "
	bodies(t, api.ErrLoan,
		"let mut x = n; let f = fn[&x]() -> int { *x }; x @= 2; f()",
		"let mut x = n; let f = fn[&x]() -> int { *x }; x @= 2; n", // a closure is dropped with all that it has
		"let mut x = n; let mut f = fn mut[&mut x]() -> int { *x = 1; 1 }; let y = @x; f()",
		"let mut x = n; let r = &x; let f = fn[r]() -> int { *r }; x @= 2; f()",
		"let mut x = n; let h = make H { r: &x }; let f = fn once[h]() -> int { *h.r }; x @= 2; f()",
		"let mut x = n; let f = fn[&x]() -> int { *x }; let g = fn[f]() -> int { f() }; x @= 2; g()",
		"let mut x = n; let f = fn[&x]() -> int { let mut y = *x; let r = &y; y @= 2; *r }; n",
	)
	bodies(t, api.OK,
		"let mut x = n; let y = { let f = fn[&x]() -> int { *x }; f() }; x = 2; y",
		"let mut x = n; let f = fn[x]() -> int { x }; x = 2; f()",
		"let mut x = n; { let mut f = fn mut[&mut x]() -> int { *x = 1; 1 }; f(); f(); } x",
		"let h = spawn[n] -> int { n }; n",
		"let b = boxed(n); let h = spawn[b] -> int { *b }; n",
	)
	endings(t, "let x = n; let h = spawn[&x] -> int { *x }; n", "let x = n; let h = make H { r: &x }; spawn[h] -> int { *h.r }; n")
	judged(t, api.ErrLoan, mk+"let mut x = n; let f = mk::<&int>(); let r = f(&x); x @= 2; *r } }")
	judged(t, api.ErrLoan, mk+"let mut x = n; let f = mk::<&int>(); let r = f(&n); f(&x); x @= 2; *r } }")
	judged(t, api.ErrLoan, mk+"let mut x = n; let f = last::<&int>(); let r = f(&x); x @= 2; *r } }")
	judged(t, api.ErrLoan, mk+"let mut x = n; let f = mk::<&int>(); let r = *f(&x); x @= 2; r } }") // till f is dropped
	judged(t, api.OK, mk+"let mut x = n; let r = { let f = mk::<&int>(); *f(&x) }; x = 2; r } }")
	judged(t, api.OK, mk+"let mut x = n; let f = mk::<int>(); let r = f(x); x = 2; r } }")
}

// P24, P26: references that are made by way of others.
func TestReborrows(t *testing.T) {
	bodies(t, api.ErrLoan,
		"let mut x = n; let r = &mut x; let s = &mut *r; x @= 2; *s = 1; n",
		"let mut x = n; let r = &x; let s = &*r; x @= 2; *s",
		"let mut x = n; let mut r = &mut x; let q = &mut r; let s = &mut **q; x @= 2; *s = 1; n",
		"let mut x = n; let mut r = &mut x; let q = &mut r; let s = &mut **q; *r @= 2; *s = 1; n",
		"let mut x = n; let r = &mut x; let q = &r; let s = &**q; *r @= 2; *s",
		"let mut x = n; let b = boxed(&mut x); let s = &mut **b; **b @= 2; *s = 1; n",
		"let mut x = n; let b = boxed(&mut x); let s = &mut **b; x @= 2; *s = 1; n",
		"let mut x = n; let m = make M { r: &mut x }; let q = &m; let s = &*(*q).r; *m.r @= 2; *s",
		// The first reference that is not mut, from the last one back, ends the way.
		"let mut x = n; let r = &x; let q = &r; let s = &**q; x @= 2; *s",
	)
	bodies(t, api.OK,
		"let x = n; let mut r = &x; let s: &int; { let q = &r; s = &**q; } r = &n; *s",
		"let x = n; let s: &int; { let r = &x; let q = &r; s = &**q; } *s",
		"let mut x = n; let s: &mut int; { let r = &mut x; s = &mut *r; } *s = 1; n",
		"let mut x = (n, n); let r = &mut x; let a = &mut (*r).0; let b = &mut (*r).1; *a = 1; *b = 2; x.0",
	)
}

// P24, P26: what stands in what a reference leads to lasts as long as that, also where only a part of it is used later.
func TestAsked(t *testing.T) {
	bodies(t, api.ErrLoan,
		"let mut x = n; let t = (1, &x); let q = &t; let s = &(*q).0; x @= 2; *s",
		"let mut x = n; let mut t = (1, &x); let q = &mut t; let s = &mut (*q).0; x @= 2; *s = 1; n",
		"let mut x = n; let mut v = vec::<(int, &int)>(); push(&mut v, (1, &x)); let s = &(*at(&v, 0)).0; x @= 2; *s",
	)
	bodies(t, api.OK, "let mut x = n; let t = (1, &x); let s = &t.0; x = 2; *s")
}

// P24, P26: the way of a panic: what is ended there, and what is dropped.
func TestPanics(t *testing.T) {
	bodies(t, api.OK,
		"let mut x = n; let g = make G { r: &x }; n / n",
		"let mut x = n; let r = &mut x; *r = n / n; x",
		"let mut x = n; let mut y = n; let mut r = &mut x; let s = &mut *r; r = pass(&mut y); *s = 1; *r = 2; n",
		"let b = boxed(n); let r = &b; eat(**r + 1); eat(b); n",
	)
	bodies(t, api.ErrLoan,
		"let g: G; @{ let x = n; g = make G { r: &x }; } n",
		"let x: D; let g: &D; x = make D { v: 1 }; g = &x; eat(@x); eat(g); n",
	)
	// What is dropped later by a panic lasts till then: y has gone by then, or has been changed.
	judged(t, api.ErrLoan, "mod main { struct G<'a> { r: &'a int } impl<'a> Drop for G<'a> { fn drop(self: &mut G<'a>) { } } fn eat<T>(x: T) { } @fn main(n: int) -> int { let g: G; let y = n; g = make G { r: &y }; let h = g; n / n } }")
	judged(t, api.ErrLoan, "mod main { struct G<'a> { r: &'a int } impl<'a> Drop for G<'a> { fn drop(self: &mut G<'a>) { } } fn main(n: int) -> int @{ let g: G; let y = n; g = make G { r: &y }; n } }")
	judged(t, api.OK, "mod main { struct H<'a> { r: &'a int } fn main(n: int) -> int { let h: H; let y = n; h = make H { r: &y }; n / n } }")
}
