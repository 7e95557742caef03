package holdfast

// written is a text that passes, with what main gives for some arguments, told in short.
type written struct {
	text string
	ends string // of 0, 1, 5 and 9, without picks
}

// plainTexts use no threads.
var plainTexts = []written{
	// A list that is turned round, link by link.
	{`enum L { Nil, Cons(int, Box<L>) }
fn build(n: int) -> L { let mut l = L::Nil; let mut i = 0; while i < n { l = L::Cons(i, boxed(l)); i = i + 1; } l }
fn sum(l: &L, k: int) -> int { match *l { L::Nil => 0, L::Cons(ref v, ref r) => *v * k + sum(&**r, k + 1) } }
fn turned(mut l: L) -> L { let mut r = L::Nil; loop { match l { L::Nil => break, L::Cons(v, rest) => { r = L::Cons(v, boxed(r)); l = unbox(rest); } } } r }
fn main(n: int) -> int { let l = build(n); let a = sum(&l, 1); let r = turned(l); a * 1000 + sum(&r, 1) }`,
		"Done; Done; Done 20040; Done 120240"},
	// A tree that is changed through references, by calls and in a loop.
	{`struct T { v: int, l: Option<Box<T>>, r: Option<Box<T>> }
fn leaf(v: int) -> Option<Box<T>> { Option::Some(boxed(make T { v: v, l: Option::None, r: Option::None })) }
fn put(t: &mut Option<Box<T>>, v: int) { match *t { Option::None => { *t = leaf(v); }, Option::Some(ref mut b) => { if v < (**b).v { put(&mut (**b).l, v); } else { put(&mut (**b).r, v); } } } }
fn last(t: &mut Option<Box<T>>, v: int) { let mut c = t; loop { match *c { Option::Some(ref mut b) => { c = &mut (**b).r; }, Option::None => break } } *c = leaf(v); }
fn tell(t: &Option<Box<T>>) -> int { match *t { Option::None => 0, Option::Some(ref b) => { let k = tell(&(**b).l); out((**b).v); k + tell(&(**b).r) + 1 } } }
fn main(n: int) -> int { let mut t: Option<Box<T>> = Option::None; let mut i = 1; while i < n { put(&mut t, i * 7 % 5); i = i + 1; } last(&mut t, 50); tell(&t) }`,
		"Done 1 [50]; Done 1 [50]; Done 5 [1 2 3 4 50]; Done 9 [0 1 1 2 2 3 4 4 50]"},
	// References that are chosen and handed on.
	{`struct B<'a> { most: &'a int, seen: int }
fn more<'a>(a: &'a int, b: &'a int) -> &'a int { if *a < *b { b } else { a } }
fn find<'a, 'b>(v: &'a Vec<int>, first: &'a int, steps: &'b mut int) -> B<'a> { let mut best = first; let mut i = 0; while i < len(v) { best = more(best, at(v, i)); *steps = *steps + 1; i = i + 1; } make B { most: best, seen: i } }
fn main(n: int) -> int { let mut v = vec::<int>(); let mut i = 0; while i < n { push(&mut v, i * 5 % 7); i = i + 1; } let mut steps = 0; let least = 2; let b = find(&v, &least, &mut steps); steps = steps * 10; let k = *b.most * 100 + b.seen; push(&mut v, k); k + steps + len(&v) }`,
		"Done 201; Done 213; Done 661; Done 709"},
	// A Drop that uses what it has lent.
	{`struct G<'a> { c: &'a Cell<int>, by: int } impl<'a> Drop for G<'a> { fn drop(self: &mut G<'a>) { set((*self).c, get((*self).c) * 10 + (*self).by); } }
fn use_two(c: &Cell<int>, n: int) -> int { let a = make G { c: c, by: 1 }; let b = make G { c: c, by: 2 }; if n == 1 { return get(c); } let gone = a; if n == 5 { panic } get(c) }
fn main(n: int) -> int { let c = cell(0); { let g = make G { c: &c, by: 3 }; } let k = use_two(&c, n); k * 10000 + get(&c) }`,
		"Done 30312; Done 30321; Failed; Done 30312"},
	// Traits: by the type, by a type parameter, of boxes and tuples.
	{`trait Shape { fn area(self: &Self) -> int; fn grow(self: &mut Self, k: int); fn ended(self: Self) -> int; }
struct Sq { s: int } impl Shape for Sq { fn area(self: &Sq) -> int { (*self).s * (*self).s } fn grow(self: &mut Sq, k: int) { (*self).s = (*self).s + k; } fn ended(self: Sq) -> int { self.s } }
impl Shape for int { fn area(self: &int) -> int { *self } fn grow(self: &mut int, k: int) { *self = *self * k; } fn ended(self: int) -> int { self } }
impl<T: Shape> Shape for Box<T> { fn area(self: &Box<T>) -> int { Shape::area(&**self) } fn grow(self: &mut Box<T>, k: int) { Shape::grow(&mut **self, k); } fn ended(self: Box<T>) -> int { Shape::ended(unbox(self)) } }
impl<A: Shape, B: Shape> Shape for (A, B) { fn area(self: &(A, B)) -> int { Shape::area(&(*self).0) + Shape::area(&(*self).1) } fn grow(self: &mut (A, B), k: int) { Shape::grow(&mut (*self).0, k); Shape::grow(&mut (*self).1, k + 1); } fn ended(self: (A, B)) -> int { Shape::ended(self.0) - Shape::ended(self.1) } }
fn twice<T: Shape>(t: &mut T) -> int { Shape::grow(&mut *t, 2); Shape::area(&*t) }
fn main(n: int) -> int { let mut s = (boxed(make Sq { s: n }), (n, boxed(n))); let a = twice(&mut s); a * 100 + Shape::ended(s) }`,
		"Done 402; Done 1604; Done 8412; Done 18420"},
	// Closures of each kind, handed on, kept, called again.
	{`fn compose<'a>(f: fn 'a(int) -> int, g: fn 'a(int) -> int) -> fn 'a(int) -> int { fn[f, g](x: int) -> int { g(f(x)) } }
fn again(f: &mut fn mut(int) -> int, n: int) -> int { let mut i = 0; let mut s = 0; while i < n { s = s + (*f)(i); i = i + 1; } s }
fn only<T>(f: fn once() -> T) -> T { f() }
fn main(n: int) -> int { let mut sum = 0; let k = 3; let b = boxed(n); let f = compose(fn[&k](x: int) -> int { x + *k }, fn[n](x: int) -> int { x * n });
 let mut g = fn mut[&mut sum, f](x: int) -> int { *sum = *sum + f(x); *sum }; let s = again(&mut g, 3); let m = g(10); let last = only(fn once[b, g]() -> Box<int> { let mut h = g; boxed(unbox(b) + h(1)) }); sum * 1000 + s + m + *last }`,
		"Done; Done 29077; Done 145385; Done 261693"},
	// A slice that is cut, sorted and put together again.
	{`fn swap(s: &mut SliceMut<int>, i: int, j: int) { let a = *mat(&mut *s, i); let b = *mat(&mut *s, j); *mat(&mut *s, i) = b; *mat(s, j) = a; }
fn sort(mut s: SliceMut<int>) { let n = mlen(&s); if n < 2 { return; } let p = *mat(&mut s, n - 1); let mut i = 0; let mut k = 0; while i < n { if *mat(&mut s, i) < p { swap(&mut s, i, k); k = k + 1; } i = i + 1; } swap(&mut s, k, n - 1); let c = cut_mut(s, k); sort(c.0); sort(cut_mut(c.1, 1).1); }
fn sum(s: Slice<int>, k: int) -> int { if slen(s) == 0 { 0 } else { let c = cut(s, 1); *sat(c.0, 0) * k + sum(c.1, k + 1) } }
fn main(n: int) -> int { let mut v = vec::<int>(); let mut i = 0; while i < n { push(&mut v, i * 3 % 7); i = i + 1; } sort(view_mut(&mut v, 0, n)); let s = sum(view(&v, 0, n), 1); push(&mut v, s); *at(&v, len(&v) - 1) }`,
		"Done; Done; Done 63; Done 166"},
	// Links that go both ways: some of it is left.
	{`struct N { v: int, up: RefCell<Option<Rc<N>>>, down: RefCell<Vec<Rc<N>>> } impl Drop for N { fn drop(self: &mut N) { out((*self).v); } }
fn node(v: int) -> Rc<N> { rc(make N { v: v, up: refcell(Option::None), down: refcell(vec::<Rc<N>>()) }) }
fn tie(a: &Rc<N>, b: &Rc<N>, back: bool) { { let mut g = borrow_mut(&(*rc_get(a)).down); push(mut_get(&mut g), rc_clone(b)); } if back { *mut_get(&mut borrow_mut(&(*rc_get(b)).up)) = Option::Some(rc_clone(a)); } }
fn count(a: &Rc<N>) -> int { let g = borrow(&(*rc_get(a)).down); let mut i = 0; let mut k = 1; while i < len(ref_get(&g)) { k = k + count(at(ref_get(&g), i)); i = i + 1; } k }
fn main(n: int) -> int { let a = node(1); let b = node(2); let c = node(3); tie(&a, &b, n > 4); tie(&a, &c, false); tie(&b, &c, false); let d = boxed(node(4)); if n == 1 { panic } count(&a) * 10 + rc_count(&a) }`,
		"Done 41 [4 1 2 3]; Failed [4 1 2 3]; Done 42 [4] left 6; Done 42 [4] left 6"},
	// Guards that are asked for while others last.
	{`struct S<'a> { g: Ref<'a, int>, k: int }
fn look<'a>(c: &'a RefCell<int>, k: int) -> S<'a> { make S { g: borrow(c), k: k } }
fn main(n: int) -> int { let c = refcell(n); let mut t = 0; { let s = look(&c, 2); let u = look(&c, 3); t = *ref_get(&s.g) * s.k + *ref_get(&u.g) * u.k; } { let mut g = borrow_mut(&c); let r = mut_get(&mut g); *r = *r + t; if *r > 20 { let bad = borrow(&c); } } let g = borrow(&c); *ref_get(&g) }`,
		"Done; Done 6; Failed; Failed"},
	// What is there only on some ways.
	{`struct D { v: int } impl Drop for D { fn drop(self: &mut D) { out((*self).v); } }
fn d(v: int) -> D { make D { v: v } } fn eat<T>(x: T) { }
fn main(n: int) -> int { let a = d(1); let b: D; let mut c = (d(2), d(3)); if n > 0 { eat(a); b = d(4); } else { b = d(5); } if n > 3 { eat(c.0); if n > 7 { c.0 = d(6); } } let mut e = boxed(d(7)); let mut i = 0; while i < 2 { eat(e); e = boxed(d(8 + i)); if i == n { break; } i = i + 1; } b.v }`,
		"Done 5 [7 8 2 3 5 1]; Done 4 [1 7 8 9 2 3 4]; Done 4 [1 2 7 8 9 3 4]; Done 4 [1 2 7 8 9 6 3 4]"},
	// Modules, private fields, uses.
	{`mod bank { use book::Page; pub struct Purse { sum: int, pub name: int } pub fn open(n: int) -> Purse { make Purse { sum: 0, name: n } } pub fn pay(p: &mut Purse, n: int) -> bool { if n < 0 { false } else { (*p).sum = (*p).sum + n; true } } pub fn all(p: Purse) -> int { let Purse = p; Purse.sum } pub fn page(n: int) -> Page { make Page { n: n } } }
mod book { pub copy struct Page { pub n: int } pub trait Read { fn read(self: Self) -> int; } impl Read for Page { fn read(self: Page) -> int { self.n } } }
mod main { use bank::pay; use book::Read; fn main(n: int) -> int { let mut p = bank::open(n); let q = bank::page(p.name + 1); let ok = pay(&mut p, q.n) && pay(&mut p, q.n) && pay(&mut p, 0 - 1); if ok { 0 } else { bank::all(p) + Read::read(q) } } }`,
		"Done 3; Done 6; Done 18; Done 30"},
	// Options, generics and what is found out of types.
	{`struct P<A, B> { a: A, b: B }
fn map<A, B>(o: Option<A>, f: fn once(A) -> B) -> Option<B> { match o { Option::Some(x) => Option::Some(f(x)), Option::None => Option::None } }
fn or<T>(o: Option<T>, x: T) -> T { match o { Option::Some(y) => y, Option::None => x } }
fn turned<A, B>(p: P<A, B>) -> P<B, A> { make P { a: p.b, b: p.a } }
fn taken<T>(o: &mut Option<T>) -> Option<T> { replace(o, Option::None) }
fn main(n: int) -> int { let p = turned(make P { a: n, b: boxed(n * 2) }); let mut o = if n > 3 { Option::Some(p.a) } else { Option::None }; let q = taken(&mut o); let r = map(q, fn once[n](b: Box<int>) -> P<int, bool> { make P { a: unbox(b) + n, b: true } }); let s = or(r, make P { a: p.b, b: false }); let t = match o { Option::None => 100, Option::Some(_) => 200 }; if s.b { s.a + t } else { t - s.a } }`,
		"Done 100; Done 99; Done 115; Done 127"},
	// What goes by steps: a trait with state, around others.
	{`trait Steps { fn step(self: &mut Self) -> Option<int>; }
struct To { at: int, end: int } impl Steps for To { fn step(self: &mut To) -> Option<int> { if (*self).at < (*self).end { (*self).at = (*self).at + 1; Option::Some((*self).at) } else { Option::None } } }
struct By<'f, S> { of: S, f: fn 'f mut(int) -> int } impl<'f, S: Steps> Steps for By<'f, S> { fn step(self: &mut By<'f, S>) -> Option<int> { match Steps::step(&mut (*self).of) { Option::Some(x) => Option::Some(((*self).f)(x)), Option::None => Option::None } } }
impl<'r, S: Steps> Steps for &'r mut S { fn step(self: &mut &'r mut S) -> Option<int> { Steps::step(&mut **self) } }
fn sum<S: Steps>(mut s: S) -> int { let mut k = 0; loop { match Steps::step(&mut s) { Option::Some(x) => { k = k + x; }, Option::None => return k } } }
fn main(n: int) -> int { let mut calls = 0; let mut t = make To { at: 0, end: n }; let first = Steps::step(&mut t); let k = sum(make By { of: make By { of: &mut t, f: fn mut[&mut calls](x: int) -> int { *calls = *calls + 1; x * *calls } }, f: fn mut[n](x: int) -> int { x + n } }); match first { Option::Some(x) => x + k * 10 + calls + t.at, Option::None => 0 - 1 } }`,
		"Done -1; Done 2; Done 610; Done 3138"},
	// A field that is a mut reference, lent on.
	{`struct W<'a> { v: &'a mut Vec<int>, n: int }
fn add(w: &mut W, x: int) -> int { push(&mut *(*w).v, x); (*w).n = (*w).n + 1; len(&*(*w).v) }
fn last<'a, 'b>(w: &'b mut W<'a>) -> &'b mut int { let n = len(&*(*w).v); at_mut(&mut *(*w).v, n - 1) }
fn main(n: int) -> int { let mut v = vec::<int>(); let mut w = make W { v: &mut v, n: 0 }; let mut i = 0; while i < n { add(&mut w, i); *last(&mut w) = *last(&mut w) + i; i = i + 1; } let k = w.n; let mut s = k; loop { match pop(&mut v) { Option::Some(x) => { s = s * 2 + x; }, Option::None => break } } s }`,
		"Done; Done 2; Done 356; Done 11780"},
	// Patterns in patterns, and references to what they take.
	{`enum E { A(int, bool), B((int, F)), C } enum F { X, Y(Box<int>), Z(int, int) }
fn code(e: &E) -> int { match *e { E::A(0, _) => 1, E::A(_, true) => 2, E::A(ref k, false) => *k * 10, E::B((1, F::X)) => 3, E::B((_, F::Y(ref b))) => **b, E::B((ref k, _)) => *k * 100, E::C => 4 } }
fn bump(e: &mut E) { match *e { E::A(ref mut k, ref b) => { if *b { *k = *k + 1; } }, E::B((_, F::Y(ref mut b))) => { *b = boxed(**b + 1); }, E::B((ref mut k, F::Z(ref x, ref mut y))) => { *y = *y + *x; *k = *y; }, _ => { *e = E::A(7, false); } } }
fn into(e: E) -> Option<Box<int>> { match e { E::B((k, F::Y(b))) => { if k > 0 { Option::Some(b) } else { Option::None } }, E::A(k, b) => { if b { Option::Some(boxed(k)) } else { Option::None } }, _ => Option::None } }
fn made(n: int) -> E { match n % 6 { 0 => E::A(n, false), 1 => E::A(n, true), 2 => E::B((n, F::X)), 3 => E::B((n, F::Z(n, 2))), 5 => E::B((n, F::Y(boxed(n)))), _ => E::C } }
fn main(n: int) -> int { let mut e = made(n); let a = code(&e); bump(&mut e); let b = code(&e); let c = match into(e) { Option::Some(x) => unbox(x), Option::None => 0 }; a * 1000000 + b * 1000 + c }`,
		"Done 1001000; Done 2002002; Done 5006006; Done 901100000"},
	// References in cells and boxes, and two lifetimes.
	{`struct P<'a, 'b> { x: &'a int, y: Cell<&'b int> }
fn keep<'a, 'b: 'a>(c: &Cell<&'a int>, r: &'b int) -> &'a int { let was = get(c); set(c, r); was }
fn pick<'a, 'b>(p: &P<'a, 'b>, first: bool) -> int { if first { *(*p).x } else { *get(&(*p).y) } }
fn main(n: int) -> int { let one = 1; let two = n; let b = boxed(&one); let c = cell(*b); let was = keep(&c, &two); let k = { let three = 3; let p = make P { x: &three, y: cell(was) }; set(&p.y, get(&c)); pick(&p, n > 1) * 10 + pick(&p, n < 5) }; k * 100 + *get(&c) * 10 + **b }`,
		"Done 301; Done 1311; Done 3551; Done 3991"},
	// Panics on the way through: what has been made is dropped, from the last one on.
	{`struct D { v: int } impl Drop for D { fn drop(self: &mut D) { out((*self).v); if (*self).v == 13 { panic } } }
struct Q { a: D, b: Box<D> } impl Drop for Q { fn drop(self: &mut Q) { out(0 - (*self).a.v); } }
fn d(v: int) -> D { make D { v: v } }
fn deep(n: int, x: D) -> int { let y = d(n); if n == 0 { 100 / n } else { deep(n - 1, d(n + 20)) + y.v } }
fn main(n: int) -> int { let q = make Q { a: d(1), b: boxed(d(2)) }; let mut v = vec::<D>(); push(&mut v, d(3)); push(&mut v, d(4)); if n == 9 { let z = d(13); } let f = fn once[v](k: int) -> int { *at(&fill(2), k) + len(&v) }; if n == 1 { deep(1, d(40)) } else { f(n) } }
fn fill(n: int) -> Vec<int> { let mut v = vec::<int>(); let mut i = 0; while i < n { push(&mut v, i * 10); i = i + 1; } v }`,
		"Done 2 [3 4 -1 1 2]; Failed [0 21 1 40 3 4 -1 1 2]; Failed [3 4 -1 1 2]; Failed [13 3 4 -1 1 2]"},
	// A panic within a panic.
	{`struct B { n: int } impl Drop for B { fn drop(self: &mut B) { out((*self).n); if (*self).n > 3 { panic } } }
fn main(n: int) -> int { let a = make B { n: n }; let b = make B { n: n - 1 }; let c = make B { n: n + 1 }; n * 2 }`,
		"Done [1 -1 0]; Done 2 [2 0 1]; Aborted [6 4]; Aborted [10 8]"},
	// Numbers that have no room.
	{`fn power(b: int, n: int) -> int { if n == 0 { 1 } else { b * power(b, n - 1) } }
fn main(n: int) -> int { let big = power(2, 62); let least = 0 - big - big; let k = match n { 0 => big + (big - 1), 1 => least / (0 - 1), 5 => -least, _ => least % 10 }; k }`,
		"Done 9223372036854775807; Failed; Failed; Done -8"},
	// Closures within closures, and what they have captured from what was captured.
	{`fn main(n: int) -> int { let mut log = vec::<int>(); let b = boxed(n); let mut outer = fn mut[&mut log, b, n](k: int) -> int { let a = { let mut inner = fn mut[&mut log, &b](x: int) -> int { push(&mut **log, x + **b); len(&**log) }; inner(k) + inner(n) }; let f = fn[a, &log]() -> int { a * 10 + len(&**log) }; f() }; let x = outer(1); let y = outer(2); { let o = outer; } let mut s = x + y; let mut i = 0; while i < len(&log) { s = s * 3 + *at(&log, i); i = i + 1; } s }`,
		"Done 8619; Done 8669; Done 8869; Done 9069"},
	// A vector of closures, and closures that are shared.
	{`fn adder<'a>(k: &'a int) -> fn 'a(int) -> int { fn[k](x: int) -> int { x + *k } }
fn main(n: int) -> int { let a = 10; let b = 20; let mut v = vec::<fn(int) -> int>(); push(&mut v, adder(&a)); push(&mut v, adder(&b)); push(&mut v, fn[n](x: int) -> int { x * n }); let shared = rc(adder(&a)); let other = rc_clone(&shared); push(&mut v, fn[other](x: int) -> int { (*rc_get(&other))(x) + rc_count(&other) }); let mut x = n; let mut i = 0; while i < len(&v) { x = (*at(&v, i))(x); i = i + 1; } (*rc_get(&shared))(x) }`,
		"Done 22; Done 53; Done 197; Done 373"},
	// A trait whose method lends, and a type parameter that outlives something.
	{`trait Get { fn get(self: &Self) -> &int; fn edit(self: &mut Self) -> &mut int; }
struct A { x: int } impl Get for A { fn get(self: &A) -> &int { &(*self).x } fn edit(self: &mut A) -> &mut int { &mut (*self).x } }
struct H<'a, T> { t: &'a mut T, own: int } impl<'a, T: Get> Get for H<'a, T> { fn get(self: &H<'a, T>) -> &int { Get::get(&*(*self).t) } fn edit(self: &mut H<'a, T>) -> &mut int { (*self).own = (*self).own + 1; Get::edit(&mut *(*self).t) } }
fn hold<'a, T: Get + 'a>(t: &'a mut T) -> H<'a, T> { make H { t: t, own: 0 } }
fn most<'a, S: Get, T: Get>(s: &'a S, t: &'a T) -> &'a int { if *Get::get(s) < *Get::get(t) { Get::get(t) } else { Get::get(s) } }
fn main(n: int) -> int { let mut a = make A { x: n }; let b = make A { x: 4 }; let k = { let mut h = hold(&mut a); { let e = Get::edit(&mut h); *e = *e + 1; } *Get::edit(&mut h) = *Get::get(&h) * 2; let m = *most(&h, &b); m * 10 + h.own }; k * 100 + a.x }`,
		"Done 4202; Done 4204; Done 12212; Done 20220"},
	// A ring of boxes is none: an Rc within a Cell is not Copy, so replace does it.
	{`struct N { next_one: RefCell<Option<Rc<N>>>, b: Box<int> }
fn link(a: &Rc<N>, to: Option<Rc<N>>) -> Option<Rc<N>> { let mut g = borrow_mut(&(*rc_get(a)).next_one); replace(mut_get(&mut g), to) }
fn node(n: int) -> Rc<N> { rc(make N { next_one: refcell(Option::None), b: boxed(n) }) }
fn main(n: int) -> int { let first = node(0); let mut at_end = rc_clone(&first); let mut i = 1; while i < n { let x = node(i); link(&at_end, Option::Some(rc_clone(&x))); at_end = x; i = i + 1; } if n > 1 { link(&at_end, Option::Some(rc_clone(&first))); } if n == 9 { match link(&first, Option::None) { Option::Some(x) => { out(*(*rc_get(&x)).b); }, Option::None => { } } } rc_count(&first) }`,
		"Done 2; Done 2; Done 2 left 10; Done 2 [1]"},
	// Loans that end on one way and not on another.
	{`fn first<'a>(v: &'a mut Vec<int>, k: int) -> Option<&'a mut int> { let mut i = 0; while i < len(&*v) { if *at(&*v, i) == k { return Option::Some(at_mut(v, i)); } i = i + 1; } Option::None }
fn main(n: int) -> int { let mut v = vec::<int>(); push(&mut v, 1); push(&mut v, 5); let r = first(&mut v, n); match r { Option::Some(x) => { *x = 50; }, Option::None => { push(&mut v, n); } } let mut x = 1; let mut y = 2; let mut p = &mut x; if n > 3 { p = &mut y; } *p = 7; let q = &x; if n == 0 { *q } else { len(&v) * 1000 + *at(&v, len(&v) - 1) * 10 + *q + y } }`,
		"Done 7; Done 2059; Done 2508; Done 3098"},
}

// threadTexts have threads.
var threadTexts = []written{
	// Numbers that go through two threads.
	{`fn stage(rx: Receiver<int>, tx: Sender<int>, k: int) -> int { let mut c = 0; loop { match recv(&rx) { Option::Some(x) => { match send(&tx, x * k) { Option::None => { c = c + 1; }, Option::Some(_) => return 0 - 1 } }, Option::None => return c } } }
fn main(n: int) -> int { let a = chan::<int>(); let b = chan::<int>(); let c = chan::<int>(); let a1 = a.1; let b0 = b.0; let b1 = b.1; let c0 = c.0; let h = spawn[a1, b0] -> int { stage(a1, b0, 2) }; let j = spawn[b1, c0] -> int { stage(b1, c0, 3) }; let mut i = 0; while i < n { send(&a.0, i); i = i + 1; } { let gone = a.0; } let mut s = 0; loop { match recv(&c.1) { Option::Some(x) => { s = s + x; }, Option::None => break } } let k = match (join(h), join(j)) { (Option::Some(x), Option::Some(y)) => x * 10 + y, _ => 0 - 1 }; s * 100 + k }`,
		"Done; Done 11; Done 6055; Done 21699"},
	// Threads that take from one channel, by a Mutex, and add up in another.
	{`struct Job { n: int, b: Box<int> }
fn work(jobs: &Mutex<Receiver<Job>>, sum: &Mutex<int>) -> int { let mut done = 0; loop { let job = { let mut g = lock(jobs); recv(&*lock_get(&mut g)) }; match job { Option::Some(j) => { let mut g = lock(sum); let r = lock_get(&mut g); *r = *r + j.n * *j.b; done = done + 1; }, Option::None => return done } } }
fn main(n: int) -> int { let c = chan::<Job>(); let jobs = arc(mutex(c.1)); let sum = arc(mutex(0)); let mut hs = vec::<Handle<int>>(); let mut i = 0; while i < 3 { let a = arc_clone(&jobs); let b = arc_clone(&sum); push(&mut hs, spawn[a, b] -> int { work(arc_get(&a), arc_get(&b)) }); i = i + 1; } i = 0; while i < n { send(&c.0, make Job { n: i, b: boxed(i) }); i = i + 1; } { let gone = c.0; } let mut k = 0; loop { match pop(&mut hs) { Option::Some(h) => { match join(h) { Option::Some(x) => { k = k + x; }, Option::None => panic } }, Option::None => break } } let mut g = lock(arc_get(&sum)); *lock_get(&mut g) * 10 + k }`,
		"Done; Done 1; Done 305; Done 2049"},
	// A thread that panics, and one that nobody joins.
	{`struct D { v: int } impl Drop for D { fn drop(self: &mut D) { } }
fn main(n: int) -> int { let d = make D { v: n }; let m = arc(mutex(0)); let a = arc_clone(&m); let b = arc_clone(&m); let h = spawn[d, a] -> D { let mut g = lock(arc_get(&a)); *lock_get(&mut g) = 1; if d.v > 3 { panic } d }; { let j = spawn[b] -> Box<int> { let mut g = lock(arc_get(&b)); let r = lock_get(&mut g); *r = *r * 2; boxed(*r) }; } let k = match join(h) { Option::Some(d) => d.v, Option::None => 0 - 7 }; k }`,
		"Done; Done 1; Done -7; Done -7"},
	// Locks taken in two orders: it may be stuck.
	{`fn both(a: &Mutex<int>, b: &Mutex<int>) -> int { let mut g = lock(a); let mut h = lock(b); let x = lock_get(&mut g); let y = lock_get(&mut h); *x = *x + 1; *y = *y + *x; *y }
fn main(n: int) -> int { let a = arc(mutex(n)); let b = arc(mutex(1)); let c = arc_clone(&a); let d = arc_clone(&b); let h = spawn[c, d] -> int { both(arc_get(&d), arc_get(&c)) }; let k = both(arc_get(&a), arc_get(&b)); match join(h) { Option::Some(x) => x + k, Option::None => 0 } }`,
		"Done 6; Done 9; Done 21; Done 33"},
	// Threads that begin threads, as many as there may be, and one more.
	{`fn grow(n: int) -> int { if n == 0 { 1 } else { let m = n - 1; let h = spawn[m] -> int { grow(m) }; match join(h) { Option::Some(x) => x + 1, Option::None => 0 } } }
fn main(n: int) -> int { let h = spawn[n] -> int { grow(n) }; let j = spawn[n] -> int { grow(n / 2) }; match (join(h), join(j)) { (Option::Some(x), Option::Some(y)) => x * 10 + y, _ => 0 - 1 } }`,
		"Done 11; Done 21; Done 63; Full"},
	// What waits in a channel whose receiver goes, its own sender among it.
	{`struct M { n: int, back: Option<Sender<M>> } impl Drop for M { fn drop(self: &mut M) { out((*self).n); } }
fn main(n: int) -> int { let c = chan::<M>(); let tx = c.0; let rx = c.1; let t2 = sender_clone(&tx); let h = spawn[tx, n] -> int { send(&tx, make M { n: 1, back: Option::None }); let t3 = sender_clone(&tx); send(&tx, make M { n: 2, back: Option::Some(t3) }); n }; let k = match join(h) { Option::Some(x) => x, Option::None => 0 }; if n > 3 { let gone = rx; } match send(&t2, make M { n: 3, back: Option::None }) { Option::Some(m) => m.n * 10 + k, Option::None => k } }`,
		"Done [1 2 3]; Done 1 [1 2 3]; Done 35 [1 2 3]; Done 39 [1 2 3]"},
	// A handle that goes into its own thread's value; what is left is a ring.
	{`struct G { h: Option<Handle<G>> }
fn main(n: int) -> int { let c = chan::<Handle<G>>(); let rx = c.1; let h = spawn[rx] -> G { match recv(&rx) { Option::Some(h) => make G { h: Option::Some(h) }, Option::None => make G { h: Option::None } } }; if n > 3 { send(&c.0, h); } else { { let gone = c.0; } match join(h) { Option::Some(g) => { out(1); }, Option::None => { } } } n }`,
		"Done [1]; Done 1 [1]; Done 5 left 1; Done 9 left 1"},
	// Generic work in threads: what is captured is Send by what is asked of its type.
	{`trait Work { fn work(self: &mut Self) -> int; }
struct Add { n: int, c: Cell<int> } impl Work for Add { fn work(self: &mut Add) -> int { let f = fn[&self](k: int) -> int { get(&(**self).c) + k * (**self).n }; let x = f(1); set(&(*self).c, x); x } }
struct Mul { v: Vec<int> } impl Work for Mul { fn work(self: &mut Mul) -> int { let mut p = 1; loop { match pop(&mut (*self).v) { Option::Some(x) => { p = p * x; }, Option::None => return p } } } }
fn begin<T: Work + Send + 'static>(mut t: T, times: int) -> Handle<(T, int)> { spawn[t, times] -> (T, int) { let mut u = t; let mut i = 0; let mut k = 0; while i < times { k = k * 10 + Work::work(&mut u); i = i + 1; } (u, k) } }
fn main(n: int) -> int { let mut v = vec::<int>(); push(&mut v, n); push(&mut v, 3); let h = begin(make Add { n: n, c: cell(1) }, 2); let j = begin(make Mul { v: v }, 2); match (join(h), join(j)) { (Option::Some(a), Option::Some(m)) => get(&a.0.c) * 10000 + a.1 * 100 + m.1 + len(&m.0.v), _ => 0 } }`,
		"Done 11101; Done 32331; Done 117251; Done 202171"},
	// Shared things that only read, with a Drop that tells when the last owner goes.
	{`struct Big { v: Vec<int>, k: int } impl Drop for Big { fn drop(self: &mut Big) { out((*self).k + len(&(*self).v)); } }
fn sum(b: &Big, from: int, to: int) -> int { let s = view(&(*b).v, from, to); let mut i = 0; let mut k = 0; while i < slen(s) { k = k + *sat(s, i); i = i + 1; } k }
fn main(n: int) -> int { let mut v = vec::<int>(); let mut i = 0; while i < n * 2 { push(&mut v, i); i = i + 1; } let a = arc(make Big { v: v, k: 100 }); let b = arc_clone(&a); let c = arc_clone(&a); let h = spawn[b, n] -> int { sum(arc_get(&b), 0, n) }; let j = spawn[c, n] -> int { sum(arc_get(&c), n, n * 2) }; { let gone = a; } match (join(h), join(j)) { (Option::Some(x), Option::Some(y)) => y * 100 + x, _ => 0 } }`,
		"Done [100]; Done 100 [102]; Done 3510 [110]; Done 11736 [118]"},
	// Two that take turns, by two channels, and tell it.
	{`fn side(rx: Receiver<int>, tx: Sender<int>, by: int) -> int { loop { match recv(&rx) { Option::Some(x) => { out(x * by); if x == 0 { return by; } match send(&tx, x - 1) { Option::None => { }, Option::Some(y) => return y } }, Option::None => return 0 - by } } }
fn main(n: int) -> int { let a = chan::<int>(); let b = chan::<int>(); let first = sender_clone(&a.0); let a1 = a.1; let b0 = b.0; let h = spawn[a1, b0] -> int { side(a1, b0, 10) }; send(&first, n); { let gone = first; } let k = side(b.1, a.0, 1); match join(h) { Option::Some(x) => x * 1000 + k, Option::None => 0 } }`,
		"Done 9999 [0]; Done -9999 [10 0]; Done -9999 [50 4 30 2 10 0]; Done -9999 [90 8 70 6 50 4 30 2 10 0]"},
	// A lock that is handed to a function, and one that a panic gives back.
	{`struct Tab { sum: int, names: Vec<Box<int>> }
fn bump(g: &mut Lock<Tab>, k: int) -> int { let t = lock_get(g); (*t).sum = (*t).sum + k; push(&mut (*t).names, boxed(k)); len(&(*t).names) }
fn main(n: int) -> int { let m = arc(mutex(make Tab { sum: 0, names: vec::<Box<int>>() })); let a = arc_clone(&m); let h = spawn[a, n] -> int { let mut g = lock(arc_get(&a)); let k = bump(&mut g, 1); 10 / (k - n) }; let j = join(h); let mut g = lock(arc_get(&m)); let k = bump(&mut g, 2); let t = lock_get(&mut g); match j { Option::Some(x) => x * 100 + k * 10 + (*t).sum, Option::None => 0 - k } }`,
		"Done 1023; Done -2; Done -177; Done -77"},
}
