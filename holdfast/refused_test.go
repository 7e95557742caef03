package holdfast

import (
	"strings"
	"testing"

	"holdfast/api"
	"holdfast/run"
)

// refused are texts that would have what is gone, not there, changed or shared, but for what looks at owners, loans and threads; @ is where the fault is. Behind it how the run ends by Trust: main of 5, or of 0 if it says so. With OK there is nothing wrong with it, though it looks so.
var refused = []struct {
	items string
	kind  api.Errno
	ends  string
}{
	// What is kept for longer than it lasts, at fixed places, by functions, closures and methods.
	{`fn put<'a>(c: &Cell<&'a int>, r: &'a int) { set(c, r); } fn main(n: int) -> int { let one = 1; let c = cell(&one); @{ let x = n; put(&c, &x); } *get(&c) }`, api.ErrLoan, "WrongDead"},
	{`struct W<T> { c: Cell<T> } fn put<T: Copy>(c: &W<T>, r: T) { set(&(*c).c, r); } fn main(n: int) -> int { let one = 1; let c = make W { c: cell(&one) }; @{ let x = n; put(&c, &x); } *get(&c.c) }`, api.ErrLoan, "WrongDead"},
	{`enum L<'a> { Nil, Cons(RefCell<&'a int>, Box<L<'a>>) } fn put<'a, 'b>(l: &'b L<'a>, r: &'a int) { match *l { L::Nil => { }, L::Cons(ref c, _) => { *mut_get(&mut borrow_mut(c)) = r; } } } fn main(n: int) -> int { let one = 1; let l = L::Cons(refcell(&one), boxed(L::Nil)); @{ let x = n; put(&l, &x); } match l { L::Nil => 0, L::Cons(ref c, _) => **ref_get(&borrow(c)) } }`, api.ErrLoan, "WrongDead"},
	{`fn main(n: int) -> int { let p = chan::<&int>(); @{ let x = n; send(&p.0, &x); } match recv(&p.1) { Option::Some(r) => *r, Option::None => 0 } }`, api.ErrLoan, "WrongDead"},
	{`fn main(n: int) -> int { let one = 1; let mut v = vec::<&int>(); push(&mut v, &one); @{ let x = n; *mat(&mut view_mut(&mut v, 0, 1), 0) = &x; } **at(&v, 0) }`, api.ErrLoan, "WrongDead"},
	{`fn main(n: int) -> int { @let m = mutex(&0); { let x = n; *lock_get(&mut lock(&m)) = &x; } **lock_get(&mut lock(&m)) }`, api.ErrLoan, "WrongDead"},
	{`fn main(n: int) -> int { let r = rc(refcell(vec::<&int>())); let s = rc_clone(&r); @{ let x = n; push(mut_get(&mut borrow_mut(rc_get(&s))), &x); } **at(ref_get(&borrow(rc_get(&r))), 0) }`, api.ErrLoan, "WrongDead"},
	{`fn each<T>(v: &mut Vec<T>, f: &mut fn mut() -> T) { push(v, (*f)()); } fn main(n: int) -> int { let mut v = vec::<&int>(); @{ let x = n; let r = &x; let mut f = fn mut[r]() -> int { *r }; push(&mut v, r); } **at(&v, 0) }`, api.ErrLoan, "WrongDead"},
	{`fn keep<'a, T: Copy + 'a>(x: T) -> fn 'a() -> T { fn[x]() -> T { x } } fn main(n: int) -> int { let f = @{ let x = n; keep(&x) }; *f() }`, api.ErrLoan, "WrongDead"},
	{`@fn keep<'a, T: Copy>(x: T) -> fn 'a() -> T { fn[x]() -> T { x } } fn main(n: int) -> int { let f = { let x = n; keep(&x) }; *f() }`, api.ErrLives, "WrongDead"},
	{`@fn keep<'a>(x: &'a int) -> fn 'static() -> int { fn[x]() -> int { *x } } fn main(n: int) -> int { let f = { let x = n; keep(&x) }; f() }`, api.ErrLives, "WrongDead"},
	{`@fn long<'a>(x: &'a int) -> &'static int { x } fn main(n: int) -> int { let f = { let x = n; long(&x) }; *f }`, api.ErrLives, "WrongDead"},
	{`fn two<'a>(r: &'a mut int) -> (&'a mut int, &'a mut int) { (&mut *r, @&mut *r) } fn main(n: int) -> int { let mut x = n; let p = two(&mut x); *p.0 = 1; *p.1 = 2; *p.0 }`, api.ErrLoan, "WrongKin"},
	{`fn two<'a>(r: &'a mut int) -> (&'a mut int, &'a int) { let s = &*r; (@r, s) } fn main(n: int) -> int { let mut x = n; let p = two(&mut x); *p.0 = 1; *p.1 }`, api.ErrLoan, "WrongKin"},
	{`trait Dup { fn dup(self: &Self) -> Self; } impl<'a> Dup for &'a int { fn dup(self: &&'a int) -> &'a int { *self } } fn f<T: Dup>(t: &T) -> T { Dup::dup(t) } fn main(n: int) -> int { let r = @{ let x = n; f(&&x) }; *r }`, api.ErrLoan, "WrongDead"},
	{`trait Put { fn put(self: &mut Self, x: Self); } impl<'a> Put for &'a int { fn put(self: &mut &'a int, x: &'a int) { *self = x; } } fn main(n: int) -> int { let one = 1; let mut r = &one; @{ let x = n; Put::put(&mut r, &x); } *r }`, api.ErrLoan, "WrongDead"},
	{`struct A<T> { b: Option<Box<B<T>>> } struct B<T> { c: Cell<T>, a: Option<Box<A<T>>> } fn put<T: Copy>(a: &A<T>, x: T) { match (*a).b { Option::Some(ref b) => { set(&(**b).c, x); }, Option::None => { } } } fn main(n: int) -> int { let one = 1; let a = make A { b: Option::Some(boxed(make B { c: cell(&one), a: Option::None })) }; @{ let x = n; put(&a, &x); } match a.b { Option::Some(ref b) => *get(&(**b).c), Option::None => 0 } }`, api.ErrLoan, "WrongDead"},
	{`struct P<'a> { q: Q<'a> } struct Q<'a> { c: Cell<&'a int> } fn put<'a>(p: &P<'a>, x: &'a int) { set(&(*p).q.c, x); } fn main(n: int) -> int { let one = 1; let p = make P { q: make Q { c: cell(&one) } }; @{ let x = n; put(&p, &x); } *get(&p.q.c) }`, api.ErrLoan, "WrongDead"},
	{`fn swap<T>(a: &mut T, b: T) -> T { replace(a, b) } fn main(n: int) -> int { let one = 1; let mut r = &one; @{ let x = n; swap(&mut r, &x); } *r }`, api.ErrLoan, "WrongDead"},
	// What is dropped later than what it has lent.
	{`struct D<'a> { r: &'a int } impl<'a> Drop for D<'a> { fn drop(self: &mut D<'a>) { out(*(*self).r); } } fn main(n: int) -> int @{ let d: D; let x = n; d = make D { r: &x }; 0 }`, api.ErrLoan, "WrongDead"},
	{`struct D<'a> { r: &'a int } impl<'a> Drop for D<'a> { fn drop(self: &mut D<'a>) { out(*(*self).r); } } fn main(n: int) -> int @{ let mut v = vec::<D>(); let x = n; push(&mut v, make D { r: &x }); 0 }`, api.ErrLoan, "WrongDead"},
	{`struct D<'a> { r: &'a int } impl<'a> Drop for D<'a> { fn drop(self: &mut D<'a>) { out(*(*self).r); } } fn main(n: int) -> int @{ let c = rc(refcell(Option::None::<Box<D>>)); let x = n; *mut_get(&mut borrow_mut(rc_get(&c))) = Option::Some(boxed(make D { r: &x })); 0 }`, api.ErrLoan, "WrongDead"},
	{`struct D<'a> { r: &'a int } impl<'a> Drop for D<'a> { fn drop(self: &mut D<'a>) { out(*(*self).r); } } fn main(n: int) -> int @{ let p = chan::<(int, D)>(); let x = n; send(&p.0, (1, make D { r: &x })); 0 }`, api.ErrLoan, "WrongDead"},
	{`struct D<'a> { r: &'a int } impl<'a> Drop for D<'a> { fn drop(self: &mut D<'a>) { out(*(*self).r); } } fn main(n: int) -> int @{ let f: fn once() -> int; let x = n; let d = make D { r: &x }; f = fn once[d]() -> int { 1 }; 0 }`, api.ErrLoan, "WrongDead"},
	{`struct W<T> { t: T } impl<T> Drop for W<T> { fn drop(self: &mut W<T>) { out(1); } } fn main(n: int) -> int @{ let w: W<&int>; let x = n; w = make W { t: &x }; 0 }`, api.ErrLoan, "Done [1]"},
	{`struct Z<'a> { o: Cell<Option<&'a Z<'a>>>, v: int } impl<'a> Drop for Z<'a> { fn drop(self: &mut Z<'a>) { match get(&(*self).o) { Option::Some(z) => { out((*z).v); }, Option::None => { } } } } fn main(n: int) -> int @{ let a = make Z { o: cell(Option::None), v: 1 }; let b = make Z { o: cell(Option::None), v: 2 }; set(&a.o, Option::Some(&b)); set(&b.o, Option::Some(&a)); 0 }`, api.ErrLoan, "WrongDead [1]"},
	{`struct C<'a> { o: Cell<Option<&'a C<'a>>>, v: int } fn main(n: int) -> int { let a = make C { o: cell(Option::None), v: 1 }; let b = make C { o: cell(Option::None), v: 2 }; set(&a.o, Option::Some(&b)); set(&b.o, Option::Some(&a)); match get(&a.o) { Option::Some(c) => (*c).v, Option::None => 0 } }`, api.OK, "Done 2"},
	{`struct C<'a> { o: RefCell<Option<Ref<'a, int>>>, i: RefCell<int> } fn main(n: int) -> int @{ let c = make C { o: refcell(Option::None), i: refcell(n) }; *mut_get(&mut borrow_mut(&c.o)) = Option::Some(borrow(&c.i)); 0 }`, api.ErrLoan, "WrongDead"},
	{`struct C<'a> { o: RefCell<Option<Ref<'a, int>>>, i: RefCell<int> } fn main(n: int) -> int { let c = rc(make C { o: refcell(Option::None), i: refcell(n) }); @{ let d = rc_clone(&c); *mut_get(&mut borrow_mut(&(*rc_get(&c)).o)) = Option::Some(borrow(&(*rc_get(&d)).i)); } 0 }`, api.ErrLoan, "WrongDead"},
	{`fn main(n: int) -> int { let r: &int; @{ let b = boxed(n); r = &*b; } *r }`, api.ErrLoan, "WrongDead"},
	{`fn main(n: int) -> int { let r: &int; @{ let t = (1, Option::Some(boxed(n))); match t.1 { Option::Some(ref b) => { r = &**b; }, Option::None => panic } } *r }`, api.ErrLoan, "WrongDead"},
	{`struct S<'a> { r: &'a mut int } impl<'a> Drop for S<'a> { fn drop(self: &mut S<'a>) { *(*self).r = 1; } } fn main(n: int) -> int { let mut x = n; let q: &mut int; @{ let s = make S { r: &mut x }; q = &mut *s.r; } *q = 2; x }`, api.ErrLoan, "WrongKin"},
	{`struct S<'a> { r: &'a mut int } fn main(n: int) -> int { let mut x = n; let q: &mut int; { let s = make S { r: &mut x }; q = &mut *s.r; } *q = 2; x }`, api.OK, "Done 2"},
	// Guards and what they give.
	{`fn main(n: int) -> int { let g = @{ let c = refcell(n); borrow(&c) }; *ref_get(&g) }`, api.ErrLoan, "WrongDead"},
	{`fn main(n: int) -> int { let c = refcell(n); let r = @{ let g = borrow(&c); ref_get(&g) }; *r }`, api.ErrLoan, "Done 5"},
	{`fn main(n: int) -> int { let c = refcell(n); let g = borrow(&c); let r = ref_get(&g); let h = @g; *r }`, api.ErrLoan, "Done 5"},
	{`fn main(n: int) -> int { let mut c = refcell(n); let g = borrow_mut(&c); c @= refcell(1); let h = g; 1 }`, api.ErrLoan, "WrongKin"},
	{`fn main(n: int) -> int { let mut c = refcell(n); let g = borrow_mut(&c); let d = replace(@&mut c, refcell(1)); let h = g; 1 }`, api.ErrLoan, "WrongKin"},
	{`fn take<'a>(g: &'a mut RefMut<'a, int>) -> &'a mut int { mut_get(g) } fn main(n: int) -> int @{ let c = refcell(n); let mut g = borrow_mut(&c); *take(&mut g) = 1; 1 }`, api.ErrLoan, "Done 1"},
	{`@fn f<'a>(g: Ref<'a, int>) -> &'a int { ref_get(&g) } fn main(n: int) -> int { let c = refcell(n); let r = f(borrow(&c)); *mut_get(&mut borrow_mut(&c)) = 1; *r }`, api.ErrLoan, "WrongKin"},
	{`@fn f<'a, 'b>(g: &'b Ref<'a, int>) -> &'a int { ref_get(g) } fn main(n: int) -> int { let c = refcell(n); let r = { let g = borrow(&c); f(&g) }; *mut_get(&mut borrow_mut(&c)) = 1; *r }`, api.ErrLives, "WrongKin"},
	{`@fn f<'a, 'b>(g: &'b mut Lock<'a, int>) -> &'a mut int { lock_get(g) } fn main(n: int) -> int { let c = mutex(n); let r = { let mut g = lock(&c); f(&mut g) }; *lock_get(&mut lock(&c)) = 1; *r }`, api.ErrLives, "WrongKin"},
	// Slices and elements.
	{`fn main(n: int) -> int { let mut v = vec::<int>(); push(&mut v, 1); let s = view(&v, 0, 1); push(@&mut v, 2); *sat(s, 0) }`, api.ErrLoan, "WrongKin"},
	{`fn main(n: int) -> int { let mut v = vec::<int>(); push(&mut v, 1); push(&mut v, 1); let p = cut_mut(view_mut(&mut v, 0, 2), 1); let mut a = p.0; let mut b = p.1; *mat(&mut a, 0) = 1; let k = len(@&v); *mat(&mut b, 0) }`, api.ErrLoan, "Done 1"},
	{`fn main(n: int) -> int { let mut v = vec::<int>(); push(&mut v, 1); let mut s = view_mut(&mut v, 0, 1); let a = mat(&mut s, 0); let p = cut_mut(@s, 1); *a }`, api.ErrLoan, "Done 1"},
	{`fn main(n: int) -> int { let mut v = vec::<Box<int>>(); push(&mut v, boxed(1)); let r = &**at(&v, 0); let b = pop(@&mut v); *r }`, api.ErrLoan, "Done 1"},
	// Enums that become another variant, or have given away a part.
	{`enum E { A(int), B } fn main(n: int) -> int { let mut e = E::A(n); match e { E::A(ref x) => { e @= E::B; *x }, E::B => 0 } }`, api.ErrLoan, "WrongForm"},
	{`enum E { A(int), B } fn f(e: &mut E) -> int { match *e { E::A(ref x) => { *e @= E::B; *x }, E::B => 0 } } fn main(n: int) -> int { let mut e = E::A(n); f(&mut e) }`, api.ErrLoan, "WrongForm"},
	{`enum E { A(Box<int>), B } fn main(n: int) -> int { let mut e = E::A(boxed(n)); match e { E::A(x) => { match e { @E::A(_) => 1, E::B => 2 } }, E::B => 0 } }`, api.ErrHole, "Done 1"},
	{`enum E { A(Box<int>), B } fn main(n: int) -> int { let e = E::A(boxed(n)); let r = &e; match *r { E::A(@x) => unbox(x), E::B => 0 } }`, api.ErrMove, "WrongKin"},
	// What has been moved, or may not have come.
	{`fn main(n: int) -> int { let b = boxed(n); let r = &*b; let c = @b; *r }`, api.ErrLoan, "Done 5"},
	{`fn main(n: int) -> int { let b = boxed(n); let r = &*b; unbox(@b) + *r }`, api.ErrLoan, "WrongDead"},
	{`fn main(n: int) -> int { let mut b = boxed(n); let r = &mut *b; b @= boxed(1); *r }`, api.ErrLoan, "WrongDead"},
	{`fn main(n: int) -> int { let b = boxed(boxed(n)); let c = @*b; *c }`, api.ErrMove, "Done 5"},
	{`fn main(n: int) -> int { let b = boxed(n); let mut i = 0; while i < 2 { unbox(@b); i = i + 1; } 1 }`, api.ErrHole, "WrongHole"},
	{`fn main(n: int) -> int { let b = boxed(n); let f = fn[b]() -> int { unbox(@b) }; f() + f() }`, api.ErrMove, "WrongKin"},
	{`fn main(n: int) -> int { let b = boxed(n); let f = fn once[b]() -> int { unbox(b) }; f() + @f() }`, api.ErrHole, "WrongHole"},
	{`fn main(n: int) -> int { let x: Box<int>; if n > 3 { x = boxed(1); } unbox(@x) }`, api.ErrHole, "0: WrongHole"},
	{`fn main(n: int) -> int { let x: Box<int>; let mut i = 0; while i < 2 { x @= boxed(1); i = i + 1; } 1 }`, api.ErrAgain, "Done 1"},
	{`struct S { a: Box<int>, b: Box<int> } fn main(n: int) -> int { let s = make S { a: boxed(1), b: boxed(2) }; let a = s.a; let t = @s; unbox(t.a) }`, api.ErrHole, "WrongHole"},
	{`struct S { a: Box<int> } impl Drop for S { fn drop(self: &mut S) { out(*(*self).a); } } fn main(n: int) -> int { let s = make S { a: boxed(1) }; let a = s@.a; 1 }`, api.ErrMove, "WrongHole"},
	// References that are lent on.
	{`fn main(n: int) -> int { let mut x = n; let mut r = &mut x; let s = &r; let t = &**s; *r @= 1; *t }`, api.ErrLoan, "WrongKin"},
	{`fn main(n: int) -> int { let mut x = n; let mut y = 2; let mut p = &mut x; let r = &mut *p; p = &mut y; let k = @x; *r = 1; k }`, api.ErrLoan, "WrongKin"},
	{`struct S { a: int } fn main(n: int) -> int { let mut s = make S { a: n }; let mut p = &mut s; let r = &mut (*p).a; let q = @&mut (*p).a; *r = 1; *q }`, api.ErrLoan, "WrongKin"},
	{`@fn f<'a, 'b>(p: &'a mut &'b mut int) -> &'b mut int { &mut **p } fn main(n: int) -> int { let mut x = n; let mut r = &mut x; let s = f(&mut r); *r = 1; *s }`, api.ErrLives, "WrongKin"},
	{`@fn f<'a, 'b>(p: &'a &'b mut int) -> &'b int { &**p } fn main(n: int) -> int { let mut x = n; let mut r = &mut x; let s = f(&r); *r = 1; *s }`, api.ErrLives, "WrongKin"},
	{`fn f<'a, 'b>(p: &'a &'b int) -> &'b int { *p } fn main(n: int) -> int { let x = n; let s = { let r = &x; f(&r) }; *s }`, api.OK, "Done 5"},
	{`fn main(n: int) -> int { let mut x = n; let mut v = vec::<&mut int>(); let mut i = 0; while i < 2 { push(&mut v, @&mut x); i = i + 1; } **at_mut(&mut v, 0) = 1; x }`, api.ErrLoan, "Done 1"},
	{`fn main(n: int) -> int { let mut x = n; let mut o = Option::None::<&mut int>; let mut i = 0; while i < 2 { match o { Option::Some(ref mut r) => { **r = 1; }, Option::None => { } } o = Option::Some(&mut x); i = i + 1; } x }`, api.OK, "Done 1"},
	// Closures.
	{`fn main(n: int) -> int { let mut x = n; let mut f = fn mut[&mut x]() -> int { *x = *x + 1; *x }; x @= 2; f() }`, api.ErrLoan, "WrongKin"},
	{`fn main(n: int) -> int { let f = @{ let x = n; fn[&x]() -> int { *x } }; f() }`, api.ErrLoan, "WrongDead"},
	{`fn main(n: int) -> int { let mut x = n; let mut f = fn mut[&mut x]() -> int { *x = *x + 1; *x }; let mut g = fn mut[@&mut x]() -> int { *x = *x + 1; *x }; f() + g() + f() }`, api.ErrLoan, "WrongKin"},
	{`fn call<'a>(f: &'a fn mut() -> int) -> int { (@*f)() } fn main(n: int) -> int { let mut x = n; call(&fn mut[&mut x]() -> int { *x = 1; *x }) }`, api.ErrMut, "Done 1"},
	{`fn main(n: int) -> int { let mut x = n; let mut f = fn mut[&mut x](k: int) -> int { *x = *x + k; *x }; f(@f(1)) }`, api.ErrLoan, "WrongKin"},
	{`struct S<'a, T> { f: fn 'a(T) -> T } fn mk<T>() -> S<'static, T> { make S { f: fn[](x: T) -> T { x } } } fn main(n: int) -> int { let s = mk::<&int>(); let r = @{ let x = n; (s.f)(&x) }; *r }`, api.ErrLoan, "WrongDead"},
	{`struct S<'a, T> { f: fn 'a(T) -> T } fn mk<T>() -> S<'static, T> { make S { f: fn[](x: T) -> T { x } } } fn main(n: int) -> int { let r = @{ let x = n; let s = mk::<&int>(); (s.f)(&x) }; *r }`, api.ErrLoan, "WrongDead"},
	{`fn keep<'a, T: Copy + 'a>(x: T) -> fn 'a() -> T { fn[x]() -> T { x } } fn main(n: int) -> int { let r = @{ let x = n; let f = keep(&x); f() }; *r }`, api.ErrLoan, "WrongDead"},
	{`struct S<'a> { f: fn 'a() -> int } fn main(n: int) -> int { let s = @{ let x = n; make S { f: fn[&x]() -> int { *x } } }; (s.f)() }`, api.ErrLoan, "WrongDead"},
	{`struct G<'a> { r: &'a int } trait Tr { fn f(self: &Self, n: int) -> int; } impl<'a> Tr for G<'a> { fn f(self: &G<'a>, n: int) -> int { let y: Self; { let k = n; let id = @fn[](x: Self) -> Self { x }; y = id(make G { r: &k }); } *y.r } } fn main(n: int) -> int { let x = 3; let g = make G { r: &x }; Tr::f(&g, n) }`, api.ErrLives, "WrongDead"},
	// Threads.
	{`fn main(n: int) -> int @{ let x = n; let h = spawn[&x] -> int { *x }; match join(h) { Option::Some(y) => y, Option::None => 0 } }`, api.ErrLoan, "Done 5"},
	{`@fn f<'a>(x: &'a int) -> Handle<int> { spawn[x] -> int { *x } } fn main(n: int) -> int { let h = { let x = n; f(&x) }; match join(h) { Option::Some(y) => y, Option::None => 0 } }`, api.ErrLives, "WrongDead"},
	{`@fn f<T: Send + Copy>(x: T) -> Handle<T> { spawn[x] -> T { x } } fn main(n: int) -> int { let h = { let x = n; f(&x) }; match join(h) { Option::Some(y) => *y, Option::None => 0 } }`, api.ErrLives, "WrongDead"},
	{`fn f<T: Send + Copy + 'static>(x: T) -> Handle<T> { spawn[x] -> T { x } } fn main(n: int) -> int { let h = @{ let x = n; f(&x) }; match join(h) { Option::Some(y) => *y, Option::None => 0 } }`, api.ErrLoan, "WrongDead"},
	{`fn main(n: int) -> int { let a = arc(cell(n)); let b = arc_clone(&a); let h = spawn[@b] -> int { set(arc_get(&b), 1); 1 }; set(arc_get(&a), 2); get(arc_get(&a)) }`, api.ErrSend, ""},
	{`fn main(n: int) -> int { let a = arc(refcell(n)); let b = arc_clone(&a); let h = spawn[@b] -> int { *mut_get(&mut borrow_mut(arc_get(&b))) = 1; 1 }; *ref_get(&borrow(arc_get(&a))) }`, api.ErrSend, ""},
	{`fn main(n: int) -> int { let f = fn[n]() -> int { n }; let h = spawn[@f] -> int { f() }; 1 }`, api.ErrSend, ""},
	{`struct S { r: Rc<int> } fn main(n: int) -> int { let s = make S { r: rc(n) }; let h = spawn[@s] -> int { 1 }; 1 }`, api.ErrSend, ""},
	{`fn main(n: int) -> int { let m = arc(mutex(rc(n))); let k = arc_clone(&m); let h = spawn[@k] -> int { 1 }; 1 }`, api.ErrSend, ""},
	{`fn main(n: int) -> int { let h = @spawn[n] -> Rc<int> { rc(n) }; 1 }`, api.ErrSend, ""},
	{`fn f<T>(x: T) -> Handle<int> { spawn[@x] -> int { 1 } } fn main(n: int) -> int { let h = f(rc(n)); 1 }`, api.ErrSend, ""},
	// Lifetimes that a signature does not tell.
	{`struct P<'a, 'b> { r: &'a &'b int } @fn f<'a, 'b>(p: P<'a, 'b>) -> &'a int { *p.r } fn main(n: int) -> int { let x = n; let r = &x; *f(make P { r: &r }) }`, api.ErrLives, "Done 5"},
	{`fn f<'a, 'b>(w: &'a &'b int, x: &'b int) -> &'a int { x } fn main(n: int) -> int { let one = 1; let r = &one; let s = @{ let x = n; f(&r, &x) }; *s }`, api.ErrLoan, "WrongDead"},
	{`trait F { fn f(self: &Self) -> &int; } struct A<'a> { r: &'a int } impl<'a> F for A<'a> { fn f(self: &A<'a>) -> &int { (*self).r } } fn main(n: int) -> int { let r = @{ let a = make A { r: &n }; F::f(&a) }; *r }`, api.ErrLoan, "Done 5"},
	{`struct S<'a> { r: &'a mut int } @fn f<'a, 'b>(s: &'b mut S<'a>) -> &'a mut int { &mut *(*s).r } fn main(n: int) -> int { let mut x = n; let mut s = make S { r: &mut x }; let p = f(&mut s); let q = f(&mut s); *p = 1; *q }`, api.ErrLives, "WrongKin"},
	{`struct S<'a> { r: &'a mut int } @fn f<'a, 'b>(s: &'b S<'a>) -> &'a int { &*(*s).r } fn main(n: int) -> int { let mut x = n; let mut s = make S { r: &mut x }; let p = f(&s); *s.r = 1; *p }`, api.ErrLives, "WrongKin"},
	// What a panic leads to.
	{`struct D<'a> { r: &'a int } impl<'a> Drop for D<'a> { fn drop(self: &mut D<'a>) { out(*(*self).r); } } fn p(n: int) -> int { 10 / n } fn main(n: int) -> int { let k = 1; let mut d = make D { r: &k }; @{ let x = n; d = make D { r: &x }; p(n); d = make D { r: &k }; } 0 }`, api.ErrLoan, "0: WrongDead [1]"},
	{`fn main(n: int) -> int { let mut v = vec::<int>(); let r = &mut v; push(r, 1); let k = len(&v) + 10 / n; push(@r, 2); k }`, api.ErrHole, "WrongHole"},
	{`struct D { b: Box<int> } impl Drop for D { fn drop(self: &mut D) { out(*(*self).b); } } fn f(d: D, n: int) -> int { n } fn main(n: int) -> int { let d = make D { b: boxed(n) }; f(d, 10 / n); f(@d, 1) }`, api.ErrHole, "WrongHole [5]"},
}

// P30, P31: what would go wrong is refused, where the document says, and let through by Trust. (By ErrSend both refuse it.)
func TestRefused(t *testing.T) {
	for _, row := range refused {
		text := whole(row.items)
		at := strings.Index(text, "@")
		text = strings.Replace(text, "@", "", 1)
		want := api.Fault{Kind: row.kind, At: max(at, 0)}
		p, fault := Load(text)
		if fault != want || len(p.Fns) > 0 && fault.Kind != api.OK {
			t.Errorf("%s: %v, not %v", text, fault, want)
		}
		o, fault := Run(text, 5, 3000, nil, false)
		if fault != want || fault.Kind != api.OK && !same(o, api.Outcome{}) {
			t.Errorf("%s: runs: %v, %+v", text, fault, o)
		}
		p, fault = Trust(text)
		if row.kind == api.ErrSend {
			if fault != want || len(p.Fns) > 0 {
				t.Errorf("%s: by Trust %v, not %v", text, fault, want)
			}
			continue
		}
		ends, of0 := strings.CutPrefix(row.ends, "0: ")
		arg := 5
		if of0 {
			arg = 0
		}
		if got := tell(run.Run(p, arg, 3000, nil, false)); fault.Kind != api.OK || got != ends {
			t.Errorf("%s: by Trust %v, %s, not %s", text, fault, got, ends)
		}
	}
}
