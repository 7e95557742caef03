package shapes

import (
	"slices"
	"testing"

	"holdfast/api"
)

// The types of places, of parts, and where there are none.
func TestPlaces(t *testing.T) {
	anInt, aBool, param := told(api.TyInt, 0), told(api.TyBool, 0), told(api.TyParam, 0)
	types := New([]api.DataDef{
		{Enum: true, Gens: 1, Cases: []api.Case{{}, {Parts: []api.Part{{Type: param}, {Type: told(api.TyTuple, 0, param, anInt)}}}}},
		{Gens: 1, Cases: []api.Case{{Parts: []api.Part{{Type: aBool}, {Type: told(api.TyData, 0, param)}}}}},
	})
	field := func(n int) api.Step { return api.Step{Kind: api.StepField, N: n} }
	variant := func(n, m int) api.Step { return api.Step{Kind: api.StepCase, N: n, M: m} }
	deref := api.Step{Kind: api.StepDeref}
	locals := types.OfAll([]api.Type{anInt, told(api.TyTuple, 0, anInt, aBool), told(api.TyData, 1, aBool), told(api.TyRef, 0, told(api.TyData, 0, anInt)), told(api.TyMut, 0, aBool), told(api.TyLib, api.LyBox, aBool), told(api.TyLib, api.LyRc, aBool), told(api.TyData, 0, anInt)})
	pair := types.Tuple([]Type{Int, Int})
	for _, c := range []struct {
		local int
		steps []api.Step
		want  Type
	}{
		{0, nil, Int}, {-1, nil, None}, {8, nil, None}, {0, []api.Step{field(0)}, None}, {0, []api.Step{deref}, None}, {0, []api.Step{variant(0, 0)}, None}, {0, []api.Step{{Kind: 7}}, None},
		{1, []api.Step{field(0)}, Int}, {1, []api.Step{field(1)}, Bool}, {1, []api.Step{field(2)}, None}, {1, []api.Step{field(-1)}, None}, {1, []api.Step{variant(0, 0)}, None}, {1, []api.Step{field(2), field(0)}, None},
		{2, []api.Step{field(0)}, Bool}, {2, []api.Step{field(1), variant(1, 0)}, Bool}, {2, []api.Step{field(1), variant(1, 1), field(1)}, Int}, {2, []api.Step{field(2)}, None}, {2, []api.Step{variant(0, 0)}, None},
		{3, []api.Step{deref, variant(1, 1)}, pair}, {3, []api.Step{variant(1, 1)}, None}, {4, []api.Step{deref}, Bool}, {5, []api.Step{deref}, Bool}, {6, []api.Step{deref}, None},
		{7, []api.Step{variant(1, 0)}, Int}, {7, []api.Step{variant(0, 0)}, None}, {7, []api.Step{variant(2, 0)}, None}, {7, []api.Step{variant(-1, 0)}, None}, {7, []api.Step{variant(1, 2)}, None}, {7, []api.Step{variant(1, -1)}, None}, {7, []api.Step{field(0)}, None}, {7, []api.Step{deref}, None},
	} {
		if got := types.Place(locals, api.Place{Local: c.local, Steps: c.steps}); got != c.want {
			t.Errorf("%d %v: %d, not %d", c.local, c.steps, got, c.want)
		}
	}
	if got := types.Parts(types.Shape(locals[7])); !slices.Equal(got, []Type{Int, pair}) {
		t.Error(got)
	}
	if !types.IsEnum(locals[7]) || types.IsEnum(locals[2]) || types.IsEnum(locals[1]) || types.IsEnum(None) {
		t.Error("others are enums")
	}
}
