package borrow

import (
	"strings"
	"testing"

	"holdfast/api"
)

// P26: which places of types are fixed: a value with a longer lifetime there may not be given for one with a shorter one.
func TestFixed(t *testing.T) {
	const datas = "struct Plain<'x, T> { r: &'x T } struct Inner<'x, T> { c: Cell<&'x T> } struct Half<'x, 'y> { a: &'x int, b: RefCell<&'y int> } struct Mut<'x, T> { r: &'x mut T } struct Fun<T> { f: fn 'static(T) -> int } struct Gives<T> { f: fn 'static() -> T } struct Held<'x> { f: fn 'x() -> int } struct Wide<'x, T> { i: (int, Option<Inner<'x, T>>) } enum En<'x, 'y, T> { A(&'x int), B(Mutex<&'y T>), C } struct Unused<'x, T> { } " +
		"struct List<'x, T> { v: &'x T, tail: Option<Box<List<'x, T>>> } struct Ring<'x, T> { v: &'x int, tail: Option<Box<Ring<'x, T>>>, c: Cell<T> } struct Turn<'x, 'y> { v: &'x int, w: Cell<&'y int>, tail: Option<Box<Turn<'y, 'x>>> } struct Ping<'x, T> { p: Option<Box<Pong<'x, T>>> } struct Pong<'x, T> { p: Option<Box<Ping<'x, T>>>, r: RefCell<(&'x int, T)> } struct Left<T> { r: Option<Box<Right<Cell<T>>>> } struct Right<T> { l: Option<Box<T>> } struct Both<T> { a: Left<T>, b: Right<T> } struct Deep<'x> { m: &'static mut Plain<'static, Plain<'x, int>> } struct Ever { c: Cell<&'static int> } "
	for _, c := range []struct {
		fixed bool
		types string
	}{
		{false, "&?int; Option<&?int>; (int, &?int); Box<&?int>; Vec<&?int>; Rc<&?int>; Arc<&?int>; Handle<&?int>; &'c &?int; Slice<'c, &?int>; Ref<'c, &?int>; (Box<(int, Rc<&?int>)>, int)"},
		{false, "Slice<?, int>; SliceMut<?, int>; Ref<?, int>; RefMut<?, int>; Lock<?, int>; &?mut int; fn ?() -> int; fn ?mut(int) -> int; fn ?once() -> int; Option<Lock<?, int>>; &?mut Cell<int>"},
		{true, "&'c mut &?int; Cell<&?int>; RefCell<&?int>; Mutex<&?int>; Sender<&?int>; Receiver<&?int>; SliceMut<'c, &?int>; RefMut<'c, &?int>; Lock<'c, &?int>"},
		{true, "Box<Cell<&?int>>; Cell<Box<&?int>>; &'c mut (int, Vec<&?int>); &'c mut &'c &?int; &'c Cell<(&?int, int)>; (Cell<Slice<?, int>>, int); &'c mut fn ?() -> int; Cell<Plain<?, int>>; &'c mut Lock<?, int>; Rc<RefCell<Option<Ref<?, int>>>>"},
		{false, "Plain<?, int>; Plain<'c, &?int>; Half<?, 'c>; Mut<?, int>; Held<?>; En<?, 'c, int>; Unused<?, int>; Unused<'c, &?int>; List<?, int>; List<'c, &?int>; Ring<?, int>; Right<&?int>; Option<Box<Half<?, 'c>>>; (Ping<'c, (int, bool)>, &?int)"},
		{true, "Inner<?, int>; Inner<'c, &?int>; Half<'c, ?>; Mut<'c, &?int>; Fun<&?int>; Gives<&?int>; Wide<?, int>; Wide<'c, &?int>; En<'c, ?, int>; En<'c, 'c, &?int>; Ring<'c, &?int>; Turn<?, 'c>; Turn<'c, ?>; Ping<?, int>; Pong<?, int>; Ping<'c, &?int>; Pong<'c, &?int>; Left<&?int>; Both<&?int>; Deep<?>"},
		{true, "Mut<'c, Plain<?, int>>; Plain<'c, Inner<?, int>>; Fun<Option<&?int>>; Box<Fun<Plain<?, int>>>; Inner<'c, (int, Slice<?, int>)>"},
	} {
		for written := range strings.SplitSeq(c.types, "; ") {
			fn := "fn f<'c, 'a, 'b: 'a>(x: " + strings.ReplaceAll(written, "?", "'b ") + ") -> " + strings.ReplaceAll(written, "?", "'a ") + " { x } "
			kind := api.OK
			if c.fixed {
				kind, fn = api.ErrLives, "@"+fn
			}
			judged(t, kind, "mod main { "+datas+fn+"fn main(n: int) -> int { n } }")
			// Never may a shorter one be given for a longer one.
			fn = "@fn f<'c, 'a: 'b, 'b>(x: " + strings.ReplaceAll(written, "?", "'b ") + ") -> " + strings.ReplaceAll(written, "?", "'a ") + " { x } "
			judged(t, api.ErrLives, "mod main { "+datas+fn+"fn main(n: int) -> int { n } }")
		}
	}
}

// P26: a reference that is mut leads to what it is made of, both ways; one that is not mut does not.
func TestFixedLoans(t *testing.T) {
	bodies(t, api.ErrLoan,
		"let mut x = n; let mut r = &n; { let q = &mut r; *q = &x; } x @= 2; *r",
		"let mut r = &n; @{ let x = n; let q = &mut r; *q = &x; } *r",
		"let c = cell(&n); @{ let x = n; set(&c, &x); } *get(&c)",
		"let c = cell(&n); let d = &c; @{ let x = n; set(d, &x); } *get(&c)",
		"let mut v = vec::<&int>(); let w = &mut v; @{ let x = n; push(w, &x); } len(&v)",
	)
	bodies(t, api.OK,
		"let r = &n; { let x = n; let mut q = &r; q = &&x; } *r",
		"let r = &n; { let x = n; let mut s = r; let q = &mut s; *q = &x; } *r",
		"let v = rc(&n); { let x = n; let mut w = rc_clone(&v); w = rc(&x); } **rc_get(&v)",
	)
}
