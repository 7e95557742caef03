package ways

import (
	"fmt"
	"slices"
	"testing"

	"holdfast/api"
	"holdfast/check"
	"holdfast/lower"
	"holdfast/scope"
	"holdfast/syntax"
)

// lowered is the program of a text, which has code.
func lowered(t *testing.T, text string) api.Program {
	t.Helper()
	n, fault := syntax.Parse(text)
	p, second := scope.Items(n)
	p, third := check.Check(p)
	p, last := lower.Lower(p)
	for _, one := range []api.Fault{fault, second, third, last} {
		if one.Kind != api.OK {
			t.Fatalf("%q: %v", text, one)
		}
	}
	return p
}

// Where code goes on, without a panic and with one.
func TestWays(t *testing.T) {
	p := lowered(t, "mod main { fn main(n: int) -> int { let mut b = boxed(n); while n > 1 { b = boxed(n + 1); } if n == 2 { panic } else { n } } }")
	w := Of(p, 0)
	panics := []int{api.IPut, api.IPanic}
	for n, i := range w.Code {
		var want []int
		switch i.Op {
		case api.IJump:
			want = []int{i.N}
		case api.IIf:
			want = []int{n + 1, i.N}
		case api.IRet, api.IPanic, api.IResume:
		default:
			want = []int{n + 1}
		}
		if got := w.Behind(n); !slices.Equal(got, want) {
			t.Errorf("behind %d: %v, not %v", n, got, want)
		}
		box := i.Op == api.IEnd && w.Vars[i.N].Type.Kind == api.TyLib
		may := n < w.Clean && (slices.Contains(panics, i.Op) || box || i.Op == api.IBin && i.N == api.OAdd)
		if w.Panics[n] != may {
			t.Errorf("instruction %d: %v", n, w.Panics[n])
		}
		if Gives(i) != (i.Op < api.IEnd) {
			t.Errorf("instruction %d gives %v", n, Gives(i))
		}
	}
}

// What places are, and what they lead through.
func TestPlaces(t *testing.T) {
	p := lowered(t, "mod main { struct D { b: Box<int> } impl Drop for D { fn drop(self: &mut D) { } } fn f(x: &(int, D)) { } fn main(n: int) -> int { n } }")
	w := Of(p, slices.IndexFunc(p.Fns, func(f api.FnDef) bool { return f.Name == "f" }))
	deref, first, second := api.Step{Kind: api.StepDeref}, api.Step{Kind: api.StepField}, api.Step{Kind: api.StepField, N: 1}
	place := func(local int, steps ...api.Step) api.Place { return api.Place{Local: local, Steps: steps} }
	long := place(1, deref, second, first, deref)
	told := ""
	for from, step := range w.Walk(long) {
		told += fmt.Sprint(from.Kind, " ", w.HasDrop(from), " ", IsDeref(step), "; ")
	}
	if want := fmt.Sprint(api.TyRef, " false true; ", api.TyTuple, " false false; ", api.TyData, " true false; ", api.TyLib, " false true; "); told != want {
		t.Errorf("%s, not %s", told, want)
	}
	for range w.Walk(long) {
		break
	}
	if w.OwnsAt(place(1)) || !w.OwnsAt(place(1, deref)) || w.OwnsAt(place(1, deref, first)) || !w.OwnsAt(place(1, deref, second, first)) {
		t.Error("other places own something")
	}
	for _, c := range []struct {
		a, b   api.Place
		begins bool
	}{
		{long, place(1), true}, {long, place(1, deref), true}, {long, long, true}, {place(1), long, false}, {long, place(2), false}, {long, place(1, second), false}, {long, place(1, deref, first), false}, {place(1), place(1), true},
	} {
		if Begins(c.a, c.b) != c.begins {
			t.Error(c.a, c.b)
		}
	}
	if IsDirect(long) || !IsDirect(place(1)) || !IsDirect(place(1, first, second)) || IsDirect(place(1, first, deref, first)) {
		t.Error("others are direct")
	}
}
