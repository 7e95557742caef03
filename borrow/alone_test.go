package borrow

import (
	"reflect"
	"slices"
	"strings"
	"testing"

	"holdfast/api"
	"holdfast/owns"
)

// without is a program in which no function has code but one: the others have no more than what is written ahead of their blocks.
func without(p api.Program, kept int) api.Program {
	p.Fns = slices.Clone(p.Fns)
	for n, f := range p.Fns {
		if n != kept {
			f.Vars, f.Code, f.Clean, f.Env = nil, nil, 0, nil
			p.Fns[n] = f
		}
	}
	return p
}

// holdAlone looks whether what is told of each function hangs on nothing that is told of the others but their signatures.
func holdAlone(t *testing.T, told any, p api.Program) {
	t.Helper()
	for n := range p.Fns {
		alone := without(p, n)
		if !reflect.DeepEqual(Lend(p, n), Lend(alone, n)) || !reflect.DeepEqual(owns.Flow(p, n), owns.Flow(alone, n)) {
			t.Errorf("%q: function %d", told, n)
		}
	}
}

// P34: what a function lends does not hang on the bodies of others.
func TestAlone(t *testing.T) {
	for _, body := range []string{
		"let mut x = n; let r = big(&n, &x); let s = one(&n, &x); x = 2; *r + *s",
		"let mut x = n; let r = Tr::first(&x, &n); let k = id(make K { r: &mut x }); n",
		"let x = n; let f = fn[&x](y: int) -> int { *x + y }; let h = spawn[x] -> int { x }; f(1)",
		"let mut x = n; let f = tied(&n, &x); let mut r = &n; put(&mut r, &x); f() + *r",
	} {
		holdAlone(t, body, lowered(t, before+body+behind))
	}
}

// P34: of functions with the same signatures, whatever their bodies are, whoever calls them may do the same with what they lend; another signature says otherwise.
func TestOtherBodies(t *testing.T) {
	const call = " fn main(n: int) -> int { let mut x = n; let r = g(&n, &x); x = 2; *r } }"
	for _, body := range []string{"x", "y", "if *x > *y { x } else { y }", "panic", "loop { }", "let z = x; z", "let mut z = 1; z = 2; y", "&*x", "g(y, x)"} {
		text := "mod main { fn g<'a>(x: &'a int, y: &'a int) -> &'a int { " + body + " }" + call
		want := api.Fault{Kind: api.ErrLoan, At: strings.Index(text, "= 2; *r")}
		if got := Check(lowered(t, text)); got != want {
			t.Errorf("%q: %v, not %v", text, got, want)
		}
		holdAlone(t, text, lowered(t, text))
	}
	for _, body := range []string{"x", "panic", "loop { }", "&*x", "g(x, y)"} {
		judged(t, api.OK, "mod main { fn g<'a, 'b>(x: &'a int, y: &'b int) -> &'a int { "+body+" }"+call)
	}
	// A body that is refused is refused for itself: main's own fault, if there is one, is not.
	judged(t, api.ErrLives, "mod main { @fn g<'a, 'b>(x: &'a int, y: &'b int) -> &'a int { y }"+call)
	// What a closure does with what it has captured is of no account to who makes it.
	for _, body := range []string{"*x", "1", "let y = *x; y", "panic"} {
		bodies(t, api.ErrLoan, "let mut x = n; let f = fn[&x]() -> int { "+body+" }; x @= 2; n")
	}
}
