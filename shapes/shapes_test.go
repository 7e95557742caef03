package shapes

import (
	"reflect"
	"testing"

	"holdfast/api"
)

func told(kind, n int, args ...api.Type) api.Type {
	return api.Type{Kind: kind, N: n, Args: args}
}

// Types have the same number just if they are the same, whatever their lifetimes are.
func TestNumbers(t *testing.T) {
	types := New([]api.DataDef{api.StdOption(), {Lives: 2, Gens: 1}})
	i, b := told(api.TyInt, 0), told(api.TyBool, 0)
	all := []api.Type{told(api.TyNever, 0), i, b, told(api.TyTuple, 0), told(api.TyTuple, 0, i), told(api.TyTuple, 0, i, b), told(api.TyTuple, 0, b, i), told(api.TyTuple, 0, told(api.TyTuple, 0, i), b), told(api.TyTuple, 0, told(api.TyTuple, 0, i, b)), told(api.TyData, 0, i), told(api.TyData, 1, i), told(api.TyParam, 0), told(api.TyParam, 1), told(api.TyRef, 0, i), told(api.TyMut, 0, i), told(api.TyFn, 0, i), told(api.TyFn, 1, i), told(api.TyLib, api.LyBox, i), told(api.TyLib, api.LySlice, i)}
	for x, one := range all {
		for y, other := range all {
			one.Lives = []int{7, 8}
			if (types.Of(one) == types.Of(other)) != (x == y) {
				t.Error(one, other)
			}
		}
	}
	if types.Of(all[0]) != Never || types.Of(i) != Int || types.Of(b) != Bool || types.Of(all[3]) != Empty {
		t.Error("the constants are others")
	}
	if _, ok := types.Is(api.TyInt, None); ok {
		t.Error("there is no type, but it is an int")
	}
}

// A type is told with as many lifetimes as it has, all of them 0.
func TestTell(t *testing.T) {
	types := New([]api.DataDef{api.StdOption(), {Lives: 2, Gens: 1}})
	zero := []int{0}
	i := told(api.TyInt, 0)
	for _, want := range []api.Type{i, told(api.TyTuple, 0, i, i), told(api.TyData, 0, i), {Kind: api.TyData, N: 1, Lives: []int{0, 0}, Args: []api.Type{i}}, {Kind: api.TyRef, Lives: zero, Args: []api.Type{i}}, {Kind: api.TyMut, Lives: zero, Args: []api.Type{i}}, {Kind: api.TyFn, N: 2, Lives: zero, Args: []api.Type{i}}, told(api.TyLib, api.LyHandle, i), {Kind: api.TyLib, N: api.LySlice, Lives: zero, Args: []api.Type{i}}} {
		if got := types.Tell(types.Of(want)); !reflect.DeepEqual(got, want) {
			t.Errorf("%v, not %v", got, want)
		}
	}
}

// A type may double again and again: what it is made of is still told apart, and it is too big.
func TestDoubled(t *testing.T) {
	types := New(nil)
	pair := types.Of(told(api.TyTuple, 0, told(api.TyParam, 0), told(api.TyParam, 0)))
	small, left, right := Int, Int, Bool
	for n := range 200 {
		small = types.Put(pair, []Type{small})
		left, right = types.Tuple([]Type{left, left}), types.Tuple([]Type{right, right})
		if small != left || left == right || types.TooBig(small) != (n >= 4) {
			t.Fatal(n)
		}
	}
	wide := make([]Type, api.MaxParts-1)
	for i := range wide {
		wide[i] = Bool
	}
	if types.TooBig(types.Tuple(wide)) || !types.TooBig(types.Tuple(append(wide, Int))) || !types.TooBig(types.Ref(true, types.Tuple(wide))) {
		t.Error("others are too big")
	}
}
