package traits

import (
	"fmt"
	"reflect"
	"strings"
	"testing"

	"holdfast/api"
)

// tellType writes a type in short, with its lifetimes.
func tellType(t api.Type) string {
	var args []string
	for _, arg := range t.Args {
		args = append(args, tellType(arg))
	}
	name := fmt.Sprint([]string{"never", "int", "bool", "tuple", "D", "T", "&", "&mut", "fn", "L"}[t.Kind], t.N)
	return strings.TrimSuffix(name, "0") + strings.ReplaceAll(strings.Trim(fmt.Sprint(t.Lives), "[]"), " ", "'") + "(" + strings.Join(args, " ") + ")"
}

// tellFound writes what Find answers.
func tellFound(impl int, types []api.Type, ok bool) string {
	var told []string
	for _, t := range types {
		told = append(told, tellType(t))
	}
	return strings.TrimSpace(fmt.Sprint(impl, " ", ok, " ", strings.Join(told, ", ")))
}

// P13: by which impl a type has a trait, and with which types.
func TestFind(t *testing.T) {
	const items = "struct S<'a, T, U> { x: &'a T, y: U } enum E { X } trait A { } trait B { } trait C { } " +
		"impl B for int { } impl A for int { } impl<T: A> A for Box<T> { } impl<T, U> A for (U, T) { } impl<V, T: Copy, U> A for (T, S<U, V>, int) { } impl Drop for E { fn drop(self: &mut E) { } } impl<T> C for T { } impl A for &E { } impl<T> A for fn(T, int) -> bool { } impl<T, U> Drop for S<T, U> { fn drop(self: &mut Self) { } } "
	const gens = "<'a, P: A, Q>"
	for _, c := range []struct {
		written string
		trait   int
		want    string
	}{
		{"int", own, "1 true"}, {"int", own + 1, "0 true"}, {"int", own + 2, "6 true int()"}, {"int", own + 3, "-1 false"}, {"int", 99, "-1 false"}, {"int", -1, "-1 false"},
		{"int", api.TrCopy, "-1 false"}, {"int", api.TrSend, "-1 false"}, {"int", api.TrSync, "-1 false"}, {"int", api.TrDrop, "-1 false"},
		{"bool", own, "-1 false"}, {"Box<bool>", own, "-1 false"}, {"Box<int>", own, "2 true int()"}, {"Box<Box<int> >", own, "2 true L(int())"},
		{"(bool, int)", own, "3 true int(), bool()"}, {"(&'a int, S<bool, &'static int>)", own, "3 true D12(bool() &-1(int())), &1(int())"},
		{"(int, S<&'a int, bool>, int)", own, "4 true bool(), int(), &1(int())"}, {"(Box<int>, S<int, bool>, int)", own, "-1 false"}, {"(int, S<int, bool>, bool)", own, "-1 false"}, {"(int, int, int)", own, "-1 false"},
		{"E", api.TrDrop, "5 true"}, {"E", own, "-1 false"}, {"&'static E", own, "7 true"}, {"&'a E", own, "7 true"}, {"&mut E", own, "-1 false"},
		{"fn(Box<int>, int) -> bool", own, "8 true L(int())"}, {"fn(int, bool) -> bool", own, "-1 false"}, {"fn once(int, int) -> bool", own, "-1 false"},
		{"S<int, Box<Q> >", api.TrDrop, "9 true int(), L(T1())"}, {"Option<E>", api.TrDrop, "-1 false"},
		{"P", own, "-1 true"}, {"Q", own, "-1 false"}, {"P", own + 1, "-1 false"}, {"P", own + 2, "6 true T()"}, {"Q", own + 2, "6 true T1()"}, {"Box<P>", own, "2 true T()"}, {"Box<Q>", own, "-1 false"}, {"(Q, P)", own, "3 true T(), T1()"}, {"P", api.TrDrop, "-1 false"}, {"P", api.TrCopy, "-1 false"},
	} {
		a := ask(t, items, gens, c.written)
		if got := tellFound(Find(a.program, a.gens, c.trait, a.types[0])); got != c.want {
			t.Errorf("trait %d, %s: %s, not %s", c.trait, c.written, got, c.want)
		}
	}
}

// P13: what gens says comes ahead of impls, counts for type parameters alone, and for no trait that Find does not speak of.
func TestFindByGens(t *testing.T) {
	p := program(t, "mod m { trait A { } impl<T> A for T { } trait B { } impl<T: A> B for (T, int) { } }"+mainMod)
	gens := []api.Gen{{Traits: []int{api.TrCopy, api.TrSend, api.TrSync, own}}, {Traits: []int{own + 1, 99}}}
	for _, c := range []struct {
		trait int
		t     api.Type
		want  string
	}{
		{own, param(0), "-1 true"}, {own, param(1), "0 true T1()"}, {own, param(2), "-1 false"}, {own, param(-1), "-1 false"}, {own, boxes(1, param(2)), "0 true L(T2())"},
		{own + 1, param(1), "-1 true"}, {own + 1, param(0), "-1 false"}, {own + 1, ty(api.TyTuple, 0, param(1), tInt), "1 true T1()"}, {own + 1, ty(api.TyTuple, 0, param(2), tInt), "-1 false"},
		{api.TrCopy, param(0), "-1 false"}, {api.TrSend, param(0), "-1 false"}, {api.TrSync, param(0), "-1 false"}, {99, param(1), "-1 false"}, {api.TrDrop, param(0), "-1 false"},
	} {
		if got := tellFound(Find(p, gens, c.trait, c.t)); got != c.want {
			t.Errorf("trait %d, %s: %s, not %s", c.trait, tellType(c.t), got, c.want)
		}
	}
}

// P13: the first impl counts; where Has says no, there is none.
func TestFindFirst(t *testing.T) {
	a := ask(t, "trait A { } impl<T: Copy> A for Box<T> { } impl A for Box<Box<int> > { } impl<T> A for (T, int) { } impl<T> A for (bool, T) { } impl<T> A for T { }", "",
		"Box<int>", "Box<Box<int> >", "(bool, int)", "(bool, bool)", "(int, bool)")
	for i, want := range []string{"0 true int()", "-1 false", "2 true bool()", "3 true bool()", "4 true tuple(int() bool())"} {
		if got := tellFound(Find(a.program, nil, own, a.types[i])); got != want {
			t.Errorf("%s: %s, not %s", a.names[i], got, want)
		}
	}
	if got := tellFound(Find(a.program, nil, own, boxes(60, tInt))); got != "-1 false" {
		t.Error("too big:", got)
	}
}

// P2: the types that Find answers are in memory of their own.
func TestFindIsNew(t *testing.T) {
	a := ask(t, "trait A { } impl<T, U> A for (T, U) { }", "<'a>", "(&'a int, &'a int)")
	given := a.types[0]
	_, types, ok := Find(a.program, nil, own, given)
	if !ok || !reflect.DeepEqual(types, given.Args) {
		t.Fatal(types)
	}
	types[0].Lives[0], types[0].Args[0].Kind = 7, api.TyBool
	if got := tellType(given) + tellType(types[1]); got != "tuple(&1(int()) &1(int()))&1(int())" {
		t.Error(got)
	}
}
