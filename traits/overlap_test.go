package traits

import (
	"strings"
	"testing"

	"holdfast/api"
)

// P14: which types can become one another: `~` stands between two that can, `/` between two that cannot.
func TestOverlap(t *testing.T) {
	const items = "struct S<T> { x: T } struct R<T> { x: T } struct D<'a, T, U> { x: &'a T, y: U } "
	for _, pair := range []string{
		"int ~ int", "bool ~ bool", "int / bool", "() ~ ()", "() / int", "() / (int, int)", "(int, bool) ~ (int, bool)", "(int, bool) / (bool, int)", "(int, int) / (int, int, int)",
		"P ~ int", "P ~ Q", "P ~ (int, Box<Q>)", "&P ~ Q", "fn(P) -> int ~ Q",
		"(P, int) ~ (bool, Q)", "(P, int) ~ (Q, int)", "(P, int) / (Q, bool)", "(P, int) / (int, bool)", "(P, Q) ~ (Q, P)", "(P, Q) ~ (int, Box<P>)", "(P, Box<Q>) ~ (Box<P>, Q)", "(P, Box<Q>) / (P, Vec<Q>)", "((P, int), bool) / ((P, int), int)", "((P, int), bool) / ((P, bool), bool)",
		"S<int> ~ S<int>", "S<P> ~ S<int>", "S<int> / S<bool>", "S<P> / R<P>", "S<int> / R<int>", "S<S<P> > ~ S<Q>", "S<S<P> > / S<R<Q> >", "Option<P> ~ Option<int>", "Option<P> / S<P>",
		"Box<P> ~ Box<int>", "Box<P> / Vec<Q>", "Box<int> / S<int>", "Slice<P> / SliceMut<P>", "Rc<P> / Arc<P>", "Slice<'a, P> ~ Slice<'static, int>", "Slice<'a, int> / Slice<'a, bool>",
		"&int ~ &'a int", "&'static P ~ &'a int", "&'a int / &'a bool", "&P / &mut P", "&mut P ~ &'a mut (Q, int)", "&mut (P, bool) / &mut (Q, int)", "&int / int",
		"fn(P) -> Q ~ fn(int) -> bool", "fn(P) -> Q / fn mut(P) -> Q", "fn mut(P) -> Q / fn once(P) -> Q", "fn once(P) -> int ~ fn once(bool) -> P", "fn() -> P / fn(P) -> Q", "fn(int) -> P / fn(bool) -> P", "fn(int) -> int / fn(int) -> bool", "fn 'a(P) -> Q ~ fn 'static(P) -> Q", "fn(P, Q) -> int ~ fn(int, P) -> Q", "fn(int) -> int / (int, int)",
		"D<P, int> ~ D<bool, Q>", "D<P, int> / D<P, bool>", "D<'a, P, Q> ~ D<'static, int, bool>", "D<'a, int, bool> ~ D<int, bool>", "D<'a, int, bool> / D<'a, bool, int>",
	} {
		first, second, overlap := strings.Cut(pair, " ~ ")
		if !overlap {
			first, second, _ = strings.Cut(pair, " / ")
		}
		a := ask(t, items, "<'a, P, Q>", first, second)
		one, other := a.types[0], a.types[1]
		if Overlap(one, other) != overlap || Overlap(other, one) != overlap || !Overlap(one, one) || !Overlap(other, other) {
			t.Errorf("%s: not so", pair)
		}
		for _, n := range []int{0, 5, -1} {
			if !Overlap(one, param(n)) || !Overlap(param(n), other) {
				t.Errorf("%s: a type parameter", pair)
			}
		}
	}
}

// P14: type parameters of the one have nothing to do with those of the other.
func TestOverlapParams(t *testing.T) {
	pair := func(a, b api.Type) api.Type { return ty(api.TyTuple, 0, a, b) }
	for _, c := range []struct {
		a, b api.Type
		want bool
	}{
		{pair(param(0), param(1)), pair(param(1), param(0)), true},
		{pair(param(0), tInt), pair(boxes(3, param(0)), param(1)), true},
		{pair(param(0), tInt), pair(tInt, boxes(1, param(0))), false},
		{boxes(2, param(0)), boxes(4, param(0)), true},
		{boxes(2, tInt), boxes(4, param(0)), false},
		{boxes(300, tInt), boxes(300, tInt), true},
		{boxes(300, tInt), boxes(300, tBool), false},
		{ty(api.TyNever, 0), ty(api.TyNever, 0), true},
		{ty(api.TyNever, 0), tInt, false},
	} {
		if Overlap(c.a, c.b) != c.want || Overlap(c.b, c.a) != c.want {
			t.Error(tellType(c.a), tellType(c.b))
		}
	}
}

// P14: the first impl that overlaps an earlier one; a `@`, which is taken out first, stands ahead of it.
func TestCoherent(t *testing.T) {
	const ahead, behind = "mod k { pub struct P<T> { x: T } } mod m { trait A { } trait B { } struct S { x: int } struct D<'a, T> { x: &'a T } ", " }" + mainMod
	const drop = "{ fn drop(self: &mut Self) { } }"
	for _, marked := range []string{
		"", "impl A for int { }", "impl A for int { } impl A for bool { }", "impl A for int { } impl B for int { }", "impl<T> A for T { } impl<T> B for T { }",
		"impl<T> A for (T, int) { } impl<T> A for (T, bool) { }", "impl<T: Copy> A for Box<T> { } impl<T: Copy> A for Vec<T> { }", "impl Drop for S " + drop + " impl<T> Drop for D<T> " + drop + " impl A for S { }",
		"impl A for &int { } impl A for &mut int { } impl A for fn(int) -> int { } impl A for fn mut(int) -> int { } impl A for fn() -> int { }",
		"impl A for int { } @impl A for int { }", "impl A for int { } impl B for int { } @impl A for int { } impl B for int { }", "impl<T> A for T { } @impl A for int { }", "impl A for bool { } @impl<T> A for T { } impl A for int { }",
		"impl<T> A for (T, int) { } @impl<T> A for (bool, T) { }", "impl<T> A for (int, T) { } impl<T> A for (bool, T) { } impl A for (S, S) { } @impl<T> A for (T, S) { }",
		// What an impl asks is of no account, and lifetimes are not either.
		"impl<T: Copy> A for Box<T> { } @impl<T: B> A for Box<T> { }", "impl<T: B> A for T { } @impl A for int { }", "impl<'a> A for D<'a, int> { } @impl<T> A for D<T> { }", "impl<'a, 'b, T> A for (&'a int, &'b T) { } @impl A for (&int, &int) { }",
		"impl Drop for S " + drop + " @impl Drop for S " + drop, "impl<T> Drop for D<T> " + drop + " impl Drop for S " + drop + " @impl<'a, T> Drop for D<'a, T> " + drop,
		// The first one in the text, of whichever trait.
		"impl B for int { } impl A for int { } impl A for bool { } impl B for bool { } @impl B for int { } impl A for int { }", "impl A for int { } @impl A for int { } impl A for int { }", "impl A for int { } impl A for bool { } @impl<T> A for T { } impl A for int { }",
		"impl<T> A for k::P<T> { } } mod j { } mod i { @impl m::A for k::P<int> { }", "impl A for k::P<int> { } } mod i { impl m::A for k::P<bool> { } @impl m::A for k::P<int> { }",
	} {
		text := strings.ReplaceAll(ahead+marked+behind, "trait ", "pub trait ")
		good, rest, found := strings.Cut(text, "@")
		want := api.Fault{}
		if found {
			want = api.Fault{Kind: api.ErrOverlap, At: len(good)}
		}
		if got := Coherent(program(t, good+rest)); got != want {
			t.Errorf("%q: %v, not %v", text, got, want)
		}
	}
	if Coherent(api.Program{}) != (api.Fault{}) {
		t.Error("a program without impls")
	}
}

// P14: an overlap is found among many impls, however far the two are from one another.
func TestManyImpls(t *testing.T) {
	text := "mod m { trait A { } "
	for i := range 8 {
		for j := range 8 {
			text += "impl A for " + strings.Repeat("Box<", i) + strings.Repeat("&", j) + "int" + strings.Repeat(" >", i) + " { } "
		}
	}
	for _, c := range []struct {
		more string
		want api.Errno
	}{
		{"bool", api.OK}, {"Box<&bool>", api.OK}, {"&Box<int>", api.OK}, {"Box<&Box<int> >", api.OK}, {"&mut int", api.OK},
		{"int", api.ErrOverlap}, {"&int", api.ErrOverlap}, {"Box<&&int>", api.ErrOverlap}, {"Box<Box<Box<Box<Box<Box<Box<&&&&&&&int> > > > > > >", api.ErrOverlap},
	} {
		got := Coherent(program(t, text+"impl A for "+c.more+" { } }"+mainMod))
		if got.Kind != c.want || got.Kind == api.ErrOverlap && got.At != len(text) {
			t.Error(c.more, got)
		}
	}
}
