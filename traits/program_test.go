package traits

import (
	"strings"
	"testing"

	"holdfast/api"
	"holdfast/scope"
	"holdfast/syntax"
)

// mainMod makes a program of the modules ahead of it.
const mainMod = " mod main { fn main(n: int) -> int { n } }"

// program is the program of a text that has one.
func program(t *testing.T, text string) api.Program {
	t.Helper()
	n, fault := syntax.Parse(text)
	if fault.Kind != api.OK {
		t.Fatalf("%q: no text: %v", text, fault)
	}
	p, fault := scope.Items(n)
	if fault.Kind != api.OK {
		t.Fatalf("%q: no program: %v", text, fault)
	}
	return p
}

// asked is a program with a function whose parameters have the types that are asked for.
type asked struct {
	program api.Program
	gens    []api.Gen
	types   []api.Type
	names   []string
}

// ask makes a program of the items of a module, and of types that are written, in which the type parameters of gens stand.
func ask(t *testing.T, items, gens string, types ...string) asked {
	t.Helper()
	var params []string
	for _, written := range types {
		params = append(params, "x"+strings.Repeat("x", len(params)/20)+string(rune('a'+len(params)%20))+": "+written)
	}
	p := program(t, "mod m { "+items+" fn asked"+gens+"("+strings.Join(params, ", ")+") { } }"+mainMod)
	fn := p.Fns[len(p.Fns)-2]
	return asked{p, fn.Sig.Gens, fn.Sig.Ins, types}
}

// answers are y or n for each type.
func (a asked) answers(trait int) string {
	out := ""
	for _, t := range a.types {
		out += yesNo(Has(a.program, a.gens, trait, t))
	}
	return out
}

// hold holds the answers against what they must be.
func (a asked) hold(t *testing.T, trait int, want string) {
	t.Helper()
	got := a.answers(trait)
	if len(got) != len(want) {
		t.Fatalf("trait %d: %s, not %s", trait, got, want)
	}
	for i := range got {
		if got[i] != want[i] {
			t.Errorf("trait %d, %s: %c, not %c", trait, a.names[i], got[i], want[i])
		}
	}
}

func yesNo(yes bool) string {
	if yes {
		return "y"
	}
	return "n"
}

func ty(kind, n int, args ...api.Type) api.Type {
	return api.Type{Kind: kind, N: n, Args: args}
}

func param(n int) api.Type {
	return ty(api.TyParam, n)
}

// boxes are so many boxes in one another, around a type.
func boxes(count int, t api.Type) api.Type {
	for range count {
		t = ty(api.TyLib, api.LyBox, t)
	}
	return t
}

// own is the first trait of a program's own.
const own = api.TrFirst

var tInt, tBool = ty(api.TyInt, 0), ty(api.TyBool, 0)
