package scope

import (
	"reflect"
	"testing"

	"holdfast/api"
)

func ty(kind, n int, lives []int, args ...api.Type) api.Type {
	return api.Type{Kind: kind, N: n, Lives: lives, Args: args}
}

func param(n int) api.Type {
	return ty(api.TyParam, n, nil)
}

// manyTypes are types of all kinds, no two of them the same.
func manyTypes() []api.Type {
	tInt, tBool := ty(api.TyInt, 0, nil), ty(api.TyBool, 0, nil)
	one := []int{1}
	types := []api.Type{ty(api.TyNever, 0, nil), tInt, tBool, param(0), param(1), param(2), ty(api.TyTuple, 0, nil)}
	for _, t := range []api.Type{tInt, param(0), param(1)} {
		types = append(types,
			ty(api.TyTuple, 0, nil, t, tInt), ty(api.TyTuple, 0, nil, tBool, t), ty(api.TyTuple, 0, nil, t, tInt, tInt),
			ty(api.TyRef, 0, one, t), ty(api.TyMut, 0, one, t), ty(api.TyRef, 0, one, ty(api.TyRef, 0, one, t)),
			ty(api.TyData, 0, nil, t), ty(api.TyData, 1, nil, t), ty(api.TyData, 2, []int{1, -1}, t, t),
			ty(api.TyFn, 0, one, t), ty(api.TyFn, 1, one, t), ty(api.TyFn, 2, one, t), ty(api.TyFn, 0, one, t, t),
			ty(api.TyLib, api.LyBox, nil, t), ty(api.TyLib, api.LyVec, nil, t), ty(api.TyLib, api.LySlice, one, t), ty(api.TyLib, api.LyBox, nil, ty(api.TyLib, api.LyBox, nil, t)))
	}
	return types
}

// relived is a type with other lifetimes.
func relived(t api.Type) api.Type {
	out := api.Type{Kind: t.Kind, N: t.N}
	for _, life := range t.Lives {
		out.Lives = append(out.Lives, life+7)
	}
	for _, arg := range t.Args {
		out.Args = append(out.Args, relived(arg))
	}
	return out
}

// P10: Same: types are the same as themselves alone, whatever their lifetimes.
func TestSame(t *testing.T) {
	types := manyTypes()
	for i, a := range types {
		for j, b := range types {
			if Same(a, b) != (i == j) || Same(a, relived(b)) != (i == j) || Same(relived(a), b) != (i == j) {
				t.Errorf("%s, %s: %v", tellType(a), tellType(b), Same(a, b))
			}
		}
		bald := relived(a)
		bald.Lives = nil
		if !Same(a, bald) || !Same(bald, a) {
			t.Errorf("%s without its lifetimes", tellType(a))
		}
	}
}

// P10: Subst: types come in the place of the type parameters that there are types for.
func TestSubst(t *testing.T) {
	tInt, tBool := ty(api.TyInt, 0, nil), ty(api.TyBool, 0, nil)
	deep := ty(api.TyData, 3, []int{2, -1}, param(1), ty(api.TyMut, 0, []int{4}, ty(api.TyFn, 2, []int{5}, param(0), ty(api.TyTuple, 0, nil, param(1), param(2)))))
	for _, c := range []struct {
		t    api.Type
		with []api.Type
		want string
	}{
		{deep, nil, "D3'2'-1<T1, &mut'4 fn2'5(T0)->(T1, T2)>"},
		{deep, []api.Type{tInt}, "D3'2'-1<T1, &mut'4 fn2'5(int)->(T1, T2)>"},
		{deep, []api.Type{tInt, tBool}, "D3'2'-1<bool, &mut'4 fn2'5(int)->(bool, T2)>"},
		{deep, []api.Type{tInt, tBool, ty(api.TyTuple, 0, nil), tInt}, "D3'2'-1<bool, &mut'4 fn2'5(int)->(bool, ())>"},
		// What comes in stays as it is: its lifetimes, and its own type parameters.
		{deep, []api.Type{param(1), ty(api.TyRef, 0, []int{9}, param(0))}, "D3'2'-1<&'9 T0, &mut'4 fn2'5(T1)->(&'9 T0, T2)>"},
		{param(0), []api.Type{deep}, "D3'2'-1<T1, &mut'4 fn2'5(T0)->(T1, T2)>"},
		{param(1), []api.Type{deep}, "T1"},
		{param(0), []api.Type{}, "T0"},
		{tInt, []api.Type{tBool}, "int"},
		{ty(api.TyTuple, 0, nil), []api.Type{tBool}, "()"},
		{ty(api.TyLib, api.LySlice, []int{1}, param(0)), []api.Type{tBool}, "Slice'1<bool>"},
		{ty(api.TyParam, -1, nil), []api.Type{tBool}, "T-1"},
		{ty(api.TyRef, 0, []int{0}, param(0)), []api.Type{ty(api.TyNever, 0, nil)}, "&'0 ?{Kind:0 N:0 Lives:[] Args:[]}"},
	} {
		before, with := relived(c.t), tellTypes(c.with)
		if got := tellType(Subst(c.t, c.with)); got != c.want {
			t.Errorf("%s with %s: %s, not %s", tellType(c.t), with, got, c.want)
		}
		if !reflect.DeepEqual(relived(c.t), before) || tellTypes(c.with) != with {
			t.Errorf("%s with %s: changed", tellType(c.t), with)
		}
	}
}

// P10: what Subst answers is in memory of its own, so that no one who writes into a type changes another.
func TestSubstIsNew(t *testing.T) {
	with := []api.Type{ty(api.TyRef, 0, []int{9}, ty(api.TyInt, 0, nil))}
	from := ty(api.TyTuple, 0, nil, param(0), param(0), ty(api.TyRef, 0, []int{3}, param(1)))
	got := Subst(from, with)
	got.Args[0].Lives[0], got.Args[0].Args[0].Kind, got.Args[2].Lives[0] = 5, api.TyBool, 6
	if want := "(&'5 bool, &'9 int, &'6 T1)"; tellType(got) != want {
		t.Errorf("%s, not %s", tellType(got), want)
	}
	if tellType(with[0]) != "&'9 int" || tellType(from) != "(T0, T0, &'3 T1)" {
		t.Error(tellType(with[0]), tellType(from))
	}
}
