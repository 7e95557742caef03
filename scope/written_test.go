package scope

import (
	"reflect"
	"strings"
	"testing"

	"holdfast/api"
)

// bodyTypes is a text in which a type is written in the body of a function, and the function's number.
func bodyTypes(written string) (string, int) {
	return "mod m { pub struct D<'a, T> { x: &'a T } struct S { } trait A { fn f(self: &Self); } fn g<'q, T, U>(x: &'q T) { } impl<'a, V> A for (V, &'a int) { fn f(self: &Self) { let x: " + written + "; } } }" + mainMod, 1
}

// typeNode is the type that is written in the body of a function.
func typeNode(p api.Program, fn int) api.Node {
	return p.Fns[fn].Body.Kids[0].Kids[0]
}

// Types in bodies have no lifetimes but 0, and none may be written.
func TestWritten(t *testing.T) {
	for _, c := range []struct{ written, want string }{
		{"int", "int"}, {"(bool, &mut int)", "(bool, &mut'0 int)"}, {"V", "T0"}, {"Self", "(T0, &'0 int)"}, {"&Option<Self>", "&'0 D0<(T0, &'0 int)>"}, {"D<S>", "D1'0<D2<>>"}, {"m::D<&V>", "D1'0<&'0 T0>"}, {"Slice<V>", "Slice'0<T0>"}, {"fn once(Self, V) -> int", "fn2'0((T0, &'0 int), T0)->int"},
	} {
		text, fn := bodyTypes(c.written)
		p := program(t, text)
		made, fault := Written(p, p.Fns[fn], typeNode(p, fn), false)
		if fault != (api.Fault{}) || tellType(made) != c.want {
			t.Errorf("%s: %s %v, not %s", c.written, tellType(made), fault, c.want)
		}
	}
}

func TestWrittenFaults(t *testing.T) {
	for _, c := range []struct {
		marked string
		kind   api.Errno
		within bool
	}{
		{"@&'static int", api.ErrLife, false}, {"@&'a int", api.ErrLife, false}, {"(int, D<@'z, Q>)", api.ErrLife, false}, {"@fn 'a() -> Q", api.ErrLife, false}, {"fn(@&int) -> Q", api.ErrLife, false}, {"fn() -> @D<Q>", api.ErrLife, false},
		{"@Q", api.ErrName, false}, {"@T", api.ErrName, false}, {"@Box<'a, int>", api.ErrCount, false}, {"@V<int>", api.ErrCount, false}, {"@Self<int>", api.ErrCount, false}, {"@A", api.ErrSort, false},
		{"@&int", api.ErrLife, true}, {"(V, @Slice<int>)", api.ErrLife, true}, {"@fn() -> int", api.ErrLife, true}, {"D<@'a, int>", api.ErrLife, true}, {"@Q", api.ErrName, true},
	} {
		text, fn := bodyTypes(c.marked)
		want := api.Fault{Kind: c.kind, At: strings.Index(text, "@")}
		p := program(t, strings.Replace(text, "@", "", 1))
		if made, fault := Written(p, p.Fns[fn], typeNode(p, fn), c.within); fault != want || !reflect.DeepEqual(made, api.Type{}) {
			t.Errorf("%s, %v: %v, not %v", c.marked, c.within, fault, want)
		}
	}
	text, fn := bodyTypes("(Self, V, Option<int>)")
	p := program(t, text)
	if made, fault := Written(p, p.Fns[fn], typeNode(p, fn), true); fault != (api.Fault{}) || tellType(made) != "((T0, &'0 int), T0, D0<int>)" {
		t.Error(made, fault)
	}
	// Outside of an impl Self is a name like others; a node that no type has is refused.
	if _, fault := Written(p, p.Fns[0], api.Node{Kind: api.YPath, At: 7, Name: "Self"}, false); fault != (api.Fault{Kind: api.ErrName, At: 7}) {
		t.Error(fault)
	}
	if _, fault := Written(p, api.FnDef{Impl: 99}, api.Node{}, false); fault.Kind == api.OK {
		t.Error(fault)
	}
}

// A clone is the same program without its bodies and code, in memory of its own.
func TestClone(t *testing.T) {
	text := "mod m { pub struct S<'a, T> { x: &'a T } trait A { fn f(self: &Self) -> &int; } impl<'a, T: Copy> A for S<'a, T> { fn f(self: &Self) -> &int { panic } } fn g<'a: 'static, T: A + 'a>(mut x: S<T>, y: T) { } enum E { X(int), Y } } mod k { use m::S; }" + mainMod
	p := program(t, text)
	p.Fns[0].Code, p.Fns[0].Clean, p.Fns[1].Env = []api.Instr{{Op: 1}}, 3, []api.Type{{Kind: api.TyRef, Lives: []int{0}, Args: []api.Type{{Kind: api.TyInt}}}}
	got := Clone(p)
	seen := map[uintptr]reflect.Value{}
	for _, v := range []any{p, got} {
		if list, twice := noteLists(reflect.ValueOf(v), seen); twice {
			t.Error(list)
		}
	}
	for i := range p.Fns {
		p.Fns[i].Body, p.Fns[i].Code, p.Fns[i].Clean = api.Node{}, nil, 0
	}
	if !reflect.DeepEqual(got, p) {
		t.Errorf("%+v, not %+v", got, p)
	}
}
