package cover

import (
	"slices"
	"testing"

	"holdfast/api"
)

// The heads of a type are those of its values, also where nobody asks for them all.
func TestHeads(t *testing.T) {
	for _, c := range []struct {
		written string
		want    []head
	}{
		{"int", []head{{api.PInt, 0}, {api.PInt, 1}, {api.PInt, 2}}},
		{"bool", []head{{api.PBool, 0}, {api.PBool, 1}}},
		{"()", []head{{api.PTuple, 0}}},
		{"(int, No)", nil},
		{"Hue", []head{{api.PCase, 0}, {api.PCase, 1}, {api.PCase, 2}}},
		{"Leaf", []head{{api.PCase, 0}, {api.PCase, 1}, {api.PCase, 2}}},
		{"Worse", nil},
		{"Either<No, int>", []head{{api.PCase, 1}}},
		{"Held", []head{{api.PAny, 0}}},
		{"T", []head{{api.PAny, 0}}},
	} {
		m := match(t, enums, c.written, "")
		var got []head
		for h := range valuesOf(m.program).heads(m.t) {
			if got = append(got, h); len(got) == 3 {
				break
			}
		}
		if !slices.Equal(got, c.want) {
			t.Errorf("%s: %v, not %v", c.written, got, c.want)
		}
	}
}

// P1: of patterns that are none of the type nothing is promised, but there is an answer.
func TestNoPatterns(t *testing.T) {
	p := program(t, "mod main { "+enums+" fn main(n: int) -> int { n } }")
	endless := api.Program{Datas: []api.DataDef{{Enum: true, Gens: 1, Cases: []api.Case{{Parts: []api.Part{
		{Type: api.Type{Kind: api.TyData, Args: []api.Type{tupleOf(2, api.Type{Kind: api.TyParam})}}},
	}}}}}}
	int1 := api.Type{Kind: api.TyInt}
	types := []api.Type{{}, {Kind: -1}, int1, {Kind: api.TyBool}, {Kind: api.TyTuple}, tupleOf(2, int1), tupleOf(80, int1),
		{Kind: api.TyData}, {Kind: api.TyData, N: 1}, {Kind: api.TyData, N: 2}, {Kind: api.TyData, N: -1}, {Kind: api.TyData, N: 99},
		{Kind: api.TyData, Args: []api.Type{int1}}, {Kind: api.TyParam, N: -1}}
	pats := []api.Pat{anything, {}, {Kind: -1}, {Kind: api.PInt, N: 3}, is(7), {Kind: api.PTuple}, tuple(3, nil), tuple(3, map[int]api.Pat{2: is(1)}),
		{Kind: api.PCase, M: -1}, {Kind: api.PCase, M: 99, Kids: []api.Pat{is(1)}}, {Kind: api.PCase, N: 2, M: 2, Kids: []api.Pat{is(1), is(0), is(1)}}}
	for _, of := range types {
		for _, program := range []api.Program{p, endless, {}} {
			Arms(program, of, pats)
			for _, pat := range pats {
				Meet(program, of, pat, pats[len(pats)-1])
			}
		}
	}
}
