package check

import (
	"testing"

	"holdfast/api"
)

// inMod is a text with one module, main.
func inMod(items string) string {
	return "mod main { " + items + " }"
}

// P17: whole programs; what only later layers refuse passes here.
func TestWholePrograms(t *testing.T) {
	for _, items := range []string{
		"fn add(a: int, b: int) -> int { a + b } fn main(n: int) -> int { let x = add(n, 1); x * 2 }",
		"fn eat(b: Box<int>) -> int { unbox(b) } fn main(n: int) -> int { let b = boxed(n); eat(b) + eat(b) }",
		"fn main(n: int) -> int { let mut x = n; let r = &mut x; let y = x; *r = 1; y }",
		"fn main(n: int) -> int { let r: &int; { let x = n; r = &x; } *r }",
		"fn first<'a, 'b>(a: &'a int, b: &'b int) -> &'a int { b } fn main(n: int) -> int { let x = n; let y = 3; *first(&x, &y) }",
		"struct D { v: int } impl Drop for D { fn drop(self: &mut D) { out((*self).v); } } fn f(n: int) -> int { let a = make D { v: 1 }; let b = make D { v: 2 }; let c = boxed(make D { v: 3 }); if n > 3 { panic } else { n } } fn main(n: int) -> int { let z = make D { v: 9 }; f(n) }",
		"struct N { link: RefCell<Option<Rc<N>>> } fn main(n: int) -> int { let a = rc(make N { link: refcell(Option::None) }); let b = rc_clone(&a); { let mut g = borrow_mut(&(*rc_get(&a)).link); *mut_get(&mut g) = Option::Some(b); } rc_count(&a) }",
		"fn main(n: int) -> int { let m = mutex(n); let g = lock(&m); let h = lock(&m); 1 }",
		"fn main(n: int) -> int { let p = chan::<int>(); let q = chan::<int>(); let tx = p.0; let rx = p.1; let tx2 = q.0; let rx2 = q.1; let h = spawn[rx, tx2] -> int { let mut k = 0; loop { match recv(&rx) { Option::Some(x) => { send(&tx2, x * 2); k = k + 1; }, Option::None => break } } k }; let mut i = 0; while i < n { send(&tx, i); i = i + 1; } { let gone = tx; } let mut s = 0; loop { match recv(&rx2) { Option::Some(x) => { s = s + x; }, Option::None => break } } match join(h) { Option::Some(k) => s * 100 + k, Option::None => 0 - 1 } }",
	} {
		checked(t, inMod(items))
	}
	refuses(t, api.ErrArms, inMod("fn main(n: int) -> int { @match n { 0 => 1, 1 => 2 } }"))
	refuses(t, api.ErrSend, inMod("fn main(n: int) -> int { let x = rc(n); let h = spawn[@x] -> int { *rc_get(&x) }; match join(h) { Option::Some(y) => y, Option::None => 0 } }"))
}
