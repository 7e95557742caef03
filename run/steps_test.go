package run

import (
	"math"
	"testing"

	"holdfast/api"
)

// P29: how many steps bodies take. The last two are IRet and the leaving of main; ahead of them n ends.
func TestHowManySteps(t *testing.T) {
	for _, c := range []struct {
		body  string
		steps int
	}{
		// use
		{"1", 4},
		// use into a temporary, use, end of the temporary
		{"n + 1", 6},
		// use, use, end x
		{"let x = n; 1", 6},
		// use, boxed, end, use, end b, drop the Box
		{"let b = boxed(n); 1", 9},
		// use, tuple, boxed, end, end, use, end b, drop the Box; a tuple of numbers is nothing to be dropped
		{"let b = boxed((n, 2)); 1", 11},
		// use, boxed, end; use, tuple, end; use; end p, the tuple, the Box; end b
		{"let b = boxed(n); let p = (b, 1); 1", 14},
		// call, tuple, end x, ret; end; use
		{"eat(1); 1", 9},
		// call; use, make, end, end, ret; use; end a; D: use, out, end, end, tuple, end self, ret; the rest of it
		{"let a = d(1); 1", 20},
		// if: use; bin; end; if; use; jump, or use
		{"if n > 3 { 1 } else { 2 }", 10},
		{"if n < 3 { 1 } else { 2 }", 9},
		// rc: use, rc, end, use, end a, drop the Rc; what it held is a tuple of a number
		{"let a = rc(n); 1", 9},
		// and with a Box in it: use, boxed, rc, end, end; use; end a; the Rc, the tuple, the Box
		{"let a = rc(boxed(n)); 1", 13},
		// cell likewise: a cell is a step, the Box another one
		{"let a = cell(1); 1", 6},
		{"let a = refcell(boxed(1)); 1", 10},
	} {
		p := program(t, within(c.body))
		if o := held(t, c.body, p, 5, 1000, nil, false); o.Steps != c.steps || o.How != api.Done {
			t.Errorf("%s: %d steps, not %d", c.body, o.Steps, c.steps)
		}
	}
}

// P29: numbers of 64 bits, and what panics instead.
func TestNumbers(t *testing.T) {
	const most, least = math.MaxInt64, math.MinInt64
	for _, c := range []struct {
		text     string
		arg, how int
		want     int
	}{
		{"n + 1", most, api.Failed, 0}, {"n + 1", most - 1, api.Done, most}, {"n + -1", least, api.Failed, 0}, {"n + -1", least + 1, api.Done, least},
		{"n + 0", most, api.Done, most}, {"n - 1", least, api.Failed, 0}, {"n - 1", least + 1, api.Done, least}, {"n - -1", most, api.Failed, 0}, {"0 - n", least, api.Failed, 0}, {"-1 - n", least, api.Done, most}, {"n - n", least, api.Done, 0},
		{"n * 2", 1 << 62, api.Failed, 0}, {"n * 2", -1 << 62, api.Done, least}, {"2 * n", 1<<62 - 1, api.Done, most - 1}, {"n * -1", least, api.Failed, 0}, {"-1 * n", least, api.Failed, 0}, {"n * 1", least, api.Done, least}, {"n * 0", least, api.Done, 0}, {"0 * n", least, api.Done, 0}, {"n * n", 3037000499, api.Done, 9223372030926249001}, {"n * n", 3037000500, api.Failed, 0}, {"n * -1", most, api.Done, -most}, {"n * n", least, api.Failed, 0},
		{"7 / n", -2, api.Done, -3}, {"n / 2", -7, api.Done, -3}, {"n / -2", -7, api.Done, 3}, {"1 / n", 0, api.Failed, 0}, {"n / -1", least, api.Failed, 0}, {"n / -1", most, api.Done, -most}, {"n / 1", least, api.Done, least},
		{"7 % n", -2, api.Done, 1}, {"n % 2", -7, api.Done, -1}, {"1 % n", 0, api.Failed, 0}, {"n % -1", least, api.Failed, 0}, {"n % -1", 5, api.Done, 0}, {"n % 3", 8, api.Done, 2},
		{"-n", least, api.Failed, 0}, {"-n", most, api.Done, -most}, {"-n", 3, api.Done, -3}, {"-n", 0, api.Done, 0},
	} {
		p := program(t, "mod main { fn main(n: int) -> int { "+c.text+" } }")
		if o := held(t, c.text, p, c.arg, 100, nil, false); o.How != c.how || o.Value != c.want {
			t.Errorf("%s of %d: %+v", c.text, c.arg, o)
		}
	}
	for _, c := range [][2]string{
		{"n == 5", "n == 4"}, {"n != 4", "n != 5"}, {"n < 6", "n < 5"}, {"n <= 5", "n <= 4"}, {"n > 4", "n > 5"}, {"n >= 5", "n >= 6"}, {"!false", "!true"}, {"true == true", "true == false"}, {"true != false", "true != true"}, {"!(n < 5)", "!(n > 4)"}, {"n > 1 && n < 6", "n > 1 && n < 5"}, {"n < 1 || n > 4", "n < 1 || n > 5"}, {"0 - 1 < 0", "0 < 0 - 1"},
	} {
		bodies(t, [][2]string{{"if " + c[0] + " { 1 } else { 2 }", "Done 1"}, {"if " + c[1] + " { 1 } else { 2 }", "Done 2"}})
	}
}

// P29: each kind of instruction that tests of other sections do not look at.
func TestInstructions(t *testing.T) {
	bodies(t, [][2]string{
		// IUse, IPut: what stood there is dropped, or there was nothing.
		{"let mut a = d(1); a = d(2); out(9); 0", "Done [1 9 2]"},
		{"let a: D; a = d(1); out(9); 0", "Done [9 1]"},
		{"let mut a = (d(1), d(2)); a.0 = d(3); out(9); 0", "Done [1 9 3 2]"},
		{"let mut a = (d(1), d(2)); eat(a.0); a.0 = d(3); out(9); 0", "Done [1 9 3 2]"},
		{"let mut a = d(1); let r = &mut a; *r = d(2); out(9); 0", "Done [1 9 2]"},
		{"let mut x = 1; x = n; x", "Done 5"},
		// ITuple, IMake, ITag.
		{"let p = (n, (2, 3)); p.0 * 100 + p.1.0 * 10 + p.1.1", "Done 523"},
		{"let c = make C { y: 1, x: n }; c.x * 10 + c.y", "Done 51"},
		{"match E::C(d(1), 7) { E::A(x) => x, E::B(b) => unbox(b), E::C(x, y) => x.v + y }", "Done 8 [1]"},
		{"match E::B(boxed(n)) { E::A(x) => x, E::B(b) => unbox(b) + 1, E::C(x, y) => x.v + y }", "Done 6"},
		{"let c = make C { x: n, y: 1 }; let mut e = c; e.x = 7; c.x * 10 + e.x", "Done 57"},
		// ICall, IRet.
		{"let v = fill(3); let w = id(v); len(&w)", "Done 3"},
		{"eat(d(1)); eat((d(2), d(3))); 0", "Done [1 2 3]"},
		{"let f = fn[](x: int) -> int { if x > 3 { return 1; } x }; f(2) * 10 + f(5)", "Done 21"},
		// IClos, IInvoke.
		{"let f = fn[n](x: int, y: int) -> int { n * 100 + x * 10 + y }; f(2, 3)", "Done 523"},
		{"let mut s = n; { let mut f = fn mut[&mut s](x: int) -> int { *s = *s + x; *s }; f(1); f(2); } s", "Done 8"},
		{"let s = n; let mut f = fn mut[s](x: int) -> int { s = s + x; s }; f(1); f(2) * 10 + s", "Done 85"},
		{"let b = d(3); let f = fn once[b](x: int) -> int { b.v + x }; f(4)", "Done 7 [3]"},
		{"let b = d(3); let f = fn once[b](x: int) -> D { b }; let y = f(4); out(9); 0", "Done [9 3]"},
		{"let b = d(3); let f = fn once[b]() -> int { 1 }; out(9); 0", "Done [9 3]"},
		{"let f = fn[n]() -> int { n }; let g = fn[f]() -> int { f() + f() }; g()", "Done 10"},
		{"let f = fn once[]() -> int { 1 }; f() + f()", "WrongHole"},
		{"let mut x = n; let f = fn mut[&mut x]() -> int { *x }; x = 3; f()", "WrongKin"},
		// A closure that is called while it goes on: its tag is made from none.
		{"let mut k = fn mut[n]() -> int { n = n + 1; n }; let r = &mut k; (*r)(); k() * 10 + (*r)()", "WrongKin"},
		{"let mut k = fn mut[n]() -> int { n = n + 1; n }; let r = &mut k; (*r)() * 10 + (*r)()", "Done 67"},
		// IJump, IIf.
		{"let mut k = 0; let mut s = 0; while k < n { k = k + 1; if k == 2 { next; } if k == 4 { break; } s = s * 10 + k; } s", "Done 13"},
		{"let mut k = 0; loop { k = k + 1; if k > 6 { break; } } k", "Done 7"},
		// IPanic, IResume: calls are left one by one.
		{"let a = d(1); panic", "Failed [1]"},
		{"let a = d(1); let f = fn[]() -> int { let b = d(2); panic }; f()", "Failed [2 1]"},
		{"let a = d(1); let f = fn[a]() -> int { let b = d(2); *at(&fill(0), 0) }; f()", "Failed [2 1]"},
		{"let b = d(3); let f = fn once[b]() -> int { panic }; out(1); f()", "Failed [1 3]"},
		{"let a = (d(1), d(2)); let b = a.0; 1 / (n - 5)", "Failed [1 2]"},
	})
}

// P29: a data type's Drop is that of its own types.
func TestDropOfTypes(t *testing.T) {
	text := `mod main { struct W<T> { x: T, y: int } impl<T> Drop for W<T> { fn drop(self: &mut W<T>) { out((*self).y); } } struct V<T> { x: T, y: int }
fn main(n: int) -> int { let a = make W { x: true, y: 1 }; let b = make W { x: n, y: 2 }; let c = (make W { x: (n, n), y: 3 }, make W { x: false, y: 4 }); let e = make V { x: n, y: 5 }; 0 } }`
	if got := tell(heldAll(t, text, program(t, text))); got != "Done [3 4 2 1]" {
		t.Error(got)
	}
}
