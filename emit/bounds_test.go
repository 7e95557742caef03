package emit

import (
	"fmt"
	"strings"
	"testing"

	"holdfast/api"
	"holdfast/machine"
	"holdfast/run"
)

// many repeats a text with numbers in the place of #.
func many(times int, text string) string {
	var out strings.Builder
	for n := range times {
		out.WriteString(strings.ReplaceAll(text, "#", fmt.Sprint(n)))
	}
	return out.String()
}

// P39: programs at the chapter's bounds are never cut off: what costs the machine most for a step of the source.
func TestBounds(t *testing.T) {
	const z = "struct Z { } impl Drop for Z { fn drop(self: &mut Z) { out(7); } } "
	const p = "struct P { v: int } impl Drop for P { fn drop(self: &mut P) { panic } } "
	const eight = "(int, int, int, int, int, int, int, Box<int>)"
	for _, c := range []struct {
		name, items string
		arg         int
		how         int
	}{
		{"variants", z + "enum E { N, " + many(400, "A#(Z), ") + "} fn main(n: int) -> int { let z = make Z { }; let mut i = 0; while i < n { E::N; E::N; E::N; E::N; i = i + 1; } i }", 48, api.Done},
		{"variants put", z + "enum E { " + many(400, "A#(Z), ") + "N } fn main(n: int) -> int { let z = make Z { }; let mut i = 0; let mut e = E::N; while i < n { e = E::N; e = E::N; e = E::N; i = i + 1; } i }", 45, api.Done},
		{"paths", z + "struct S { " + many(120, "a#: Z, ") + "} fn k() -> S { panic } fn eat(z: Z) { } fn f(n: int) -> int { if n > 0 { return 1; } let s = k(); " + many(45, "eat(s.a#); ") + "2 } fn main(n: int) -> int { let z = make Z { }; let mut i = 0; while i < n { f(1); i = i + 1; } i }", 44, api.Done},
		{"deep", p + "fn f(n: int) -> int { " + many(85, "let a#: "+eight+"; ") + "let p: P; if n == 0 { p = make P { v: 1 }; panic } f(n - 1) } fn main(n: int) -> int { f(n) }", 120, api.Aborted},
		{"deep closures", p + "fn f(n: int, g: &fn(int) -> int) -> int { " + many(80, "let a#: "+eight+"; ") + "let p: P; if n == 0 { p = make P { v: 1 }; panic } let h = fn[n](x: int) -> int { x + n }; f(n - 1, &h) } fn main(n: int) -> int { let h = fn[](x: int) -> int { x }; f(n, &h) }", 80, api.Aborted},
		{"elements", "fn main(n: int) -> int { let mut v = vec::<" + eight + ">(); let b = boxed(1); while len(&v) < n { push(&mut v, (1, 2, 3, 4, 5, 6, 7, boxed(8))); } len(&v) }", 45, api.Done},
		{"waiting", "struct S { a: (int, int, int, int, int, int), b: Box<int> } fn main(n: int) -> int { let c = chan::<S>(); let mut i = 0; while i < n { send(&c.0, make S { a: (1, 2, 3, 4, 5, 6), b: boxed(7) }); i = i + 1; } i }", 40, api.Done},
		{"captured", "copy struct S { a: (int, int, int, int), b: (int, int, int, int) } fn s(n: int) -> S { make S { a: (1, 2, 3, 4), b: (5, 6, 7, n) } } fn main(n: int) -> int { " + many(10, "let a# = s(#); ") + "let mut i = 0; let mut k = 0; while i < n { let f = fn[" + strings.TrimSuffix(many(10, "a#, "), ", ") + "]() -> int { a0.a.0 + a9.b.3 }; k = f(); i = i + 1; } k }", 12, api.Done},
		{"list", "enum L { N, C(Box<L>) } fn main(n: int) -> int { let mut l = L::N; let mut i = 0; while i < n { l = L::C(boxed(l)); i = i + 1; } i }", 45, api.Done},
		{"nothing to drop", "enum O { N, A(Box<int>) } fn main(n: int) -> int { let mut v = vec::<(O, O)>(); while len(&v) < n { push(&mut v, (O::N, O::N)); } n }", 50, api.Done},
		{"threads", "fn main(n: int) -> int { let m = arc(mutex(0)); let mut i = 0; while i < 11 { let k = arc_clone(&m); spawn[k, i] -> int { let mut g = lock(arc_get(&k)); let r = lock_get(&mut g); *r = *r + i; *r }; i = i + 1; } i }", 5, api.Done},
		{"calls", z + "fn f(" + many(20, "a#: Z, ") + "n: int) -> int { panic } fn g(n: int) -> int { if n == 0 { return 0; } " + many(60, "let a#: Z; ") + "f(" + many(20, "make Z { }, ") + "n) } fn main(n: int) -> int { let mut i = 0; while i < n { g(0); i = i + 1; } i }", 44, api.Done},
	} {
		text := "mod main { " + strings.ReplaceAll(c.items, ", )", ")") + " }"
		p, code := compiled(t, text)
		a := run.Run(p, c.arg, api.MaxFuel, nil, false)
		b := machine.Run(code, c.arg, api.MaxMachine, nil)
		if !isSmall(p) || a.Steps > 1000 || a.Steps < 300 || a.How != c.how {
			t.Errorf("%s: it is not at the bounds: %v, %+v", c.name, isSmall(p), a)
		}
		// What is far from what may be stays so where other programs cost more.
		if b.Steps > api.MaxMachine/2 {
			t.Errorf("%s: %d steps for %d", c.name, b.Steps, a.Steps)
		}
		seen{}.hold(t, text, p, code, c.arg, nil)
	}
}
