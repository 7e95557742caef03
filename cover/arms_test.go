package cover

import (
	"fmt"
	"math"
	"slices"
	"strings"
	"testing"

	"holdfast/api"
)

// armsCase is a match, and what Arms must answer.
type armsCase struct {
	written, arms string
	idle          []int
	all           bool
}

func holdArms(t *testing.T, items string, cases []armsCase) {
	t.Helper()
	for _, c := range cases {
		m := match(t, items, c.written, c.arms)
		idle, all := Arms(m.program, m.t, m.pats)
		if !slices.Equal(idle, c.idle) || all != c.all {
			t.Errorf("%s: %s: %v %v, not %v %v", c.written, c.arms, idle, all, c.idle, c.all)
		}
	}
}

// P15: ints and bools.
func TestArmsNumbers(t *testing.T) {
	holdArms(t, enums, []armsCase{
		{"int", "", nil, false},
		{"int", "_", nil, true},
		{"int", "0 | 1 | 2", nil, false},
		{"int", "0 | 1 | 0 | _ | 1 | _", []int{2, 4, 5}, true},
		{"int", "-1 | 1 | -1", []int{2}, false},
		{"int", "9223372036854775807 | -9223372036854775807 | 9223372036854775807", []int{2}, false},
		{"bool", "", nil, false},
		{"bool", "true", nil, false},
		{"bool", "false | true", nil, true},
		{"bool", "true | true | false | _", []int{1, 3}, true},
		{"bool", "_ | false | true", []int{1, 2}, true},
	})
}

// P15: tuples, whose parts are looked at together.
func TestArmsTuples(t *testing.T) {
	holdArms(t, enums, []armsCase{
		{"()", "", nil, false},
		{"()", "()", nil, true},
		{"()", "() | () | _", []int{1, 2}, true},
		{"(bool, bool)", "(true, _) | (_, true)", nil, false},
		{"(bool, bool)", "(true, _) | (_, true) | (true, true) | (false, false) | (_, false)", []int{2, 4}, true},
		{"(bool, bool)", "(false, false) | (false, true) | (false, _) | (true, _)", []int{2}, true},
		{"(bool, int)", "(true, 1) | (false, 1) | (_, 1) | (_, 2) | (true, 2)", []int{2, 4}, false},
		{"(int, int)", "(1, _) | (_, 1) | (1, 1) | (2, 2)", []int{2}, false},
		{"(bool, bool, bool)", "(true, false, _) | (_, true, false) | (false, _, true) | (true, true, true)", nil, false},
		{"(bool, bool, bool)", "(true, false, _) | (_, true, false) | (false, _, true) | (true, true, true) | (false, false, false)", nil, true},
		{"((bool, bool), bool)", "((true, _), true) | ((_, true), false) | ((true, true), _) | (_, _)", []int{2}, true},
	})
}

// P15: enums, with what is in their variants.
func TestArmsEnums(t *testing.T) {
	holdArms(t, enums, []armsCase{
		{"Hue", "Hue::Red | Hue::Blue", nil, false},
		{"Hue", "Hue::Red | Hue::Blue | Hue::Red | Hue::Green | _", []int{2, 4}, true},
		{"Leaf", "Leaf::Two(_, _) | Leaf::Num(_)", nil, false},
		{"Leaf", "Leaf::Bare | Leaf::Num(0) | Leaf::Num(_) | Leaf::Num(1) | Leaf::Two(_, _)", []int{3}, true},
		{"Leaf", "Leaf::Bare | Leaf::Num(_) | Leaf::Two(true, _) | Leaf::Two(_, Hue::Red) | Leaf::Two(false, Hue::Blue)", nil, false},
		{"Leaf", "Leaf::Bare | Leaf::Num(_) | Leaf::Two(true, _) | Leaf::Two(_, Hue::Red) | Leaf::Two(true, Hue::Red) | Leaf::Two(_, Hue::Blue) | Leaf::Two(_, Hue::Green)", []int{4}, true},
		{"Option<Hue>", "Option::Some(Hue::Red) | Option::None | Option::Some(Hue::Green)", nil, false},
		{"Option<Hue>", "Option::Some(Hue::Red) | Option::None | Option::Some(Hue::Green) | Option::Some(Hue::Blue)", nil, true},
		{"Option<Option<bool>>", "Option::None | Option::Some(Option::None) | Option::Some(Option::Some(true))", nil, false},
		{"Option<Option<bool>>", "Option::None | Option::Some(Option::None) | Option::Some(Option::Some(true)) | Option::Some(Option::Some(false)) | Option::Some(_)", []int{4}, true},
		{"Either<bool, (bool, Hue)>", "Either::Left(_) | Either::Right((true, _)) | Either::Right((_, Hue::Red)) | Either::Right((false, Hue::Green)) | Either::Right((false, Hue::Blue))", nil, true},
		{"Either<Either<bool, int>, bool>", "Either::Left(Either::Left(true)) | Either::Left(Either::Right(_)) | Either::Right(_) | Either::Left(Either::Left(_))", nil, true},
	})
}

// P15: into other types no pattern looks, but there are values: also of a struct that holds none.
func TestArmsShut(t *testing.T) {
	for _, written := range []string{"Held", "Pair<No>", "&No", "&mut No", "Box<No>", "Vec<No>", "fn(No) -> No", "T"} {
		holdArms(t, enums, []armsCase{
			{written, "", nil, false},
			{written, "_", nil, true},
			{written, "_ | _", []int{1}, true},
			{"(" + written + ", bool)", "(_, true) | (_, true) | (_, _)", []int{1}, true},
			{"Option<" + written + ">", "Option::None", nil, false},
			{"Option<" + written + ">", "Option::Some(_) | Option::None | Option::Some(_)", []int{2}, true},
		})
	}
}

// P15: of a type without values all patterns are idle, and no pattern takes all.
func TestArmsNone(t *testing.T) {
	for _, written := range []string{"No", "Worse", "(No, int)", "(int, (bool, No))", "One<No>", "Either<No, Worse>", "One<One<(bool, Worse)>>"} {
		holdArms(t, enums, []armsCase{
			{written, "", nil, true},
			{written, "_", []int{0}, true},
			{written, "_ | _", []int{0, 1}, true},
		})
	}
	holdArms(t, enums, []armsCase{
		{"Worse", "Worse::B(1, _) | Worse::A(_)", []int{0, 1}, true},
		{"(No, int)", "(_, 1) | (_, _)", []int{0, 1}, true},
		{"Option<No>", "", nil, false},
		{"Option<No>", "Option::None", nil, true},
		{"Option<No>", "Option::Some(_) | Option::None | _", []int{0, 2}, true},
		{"Either<No, bool>", "Either::Right(true) | Either::Left(_) | Either::Right(false)", []int{1}, true},
		{"Either<(int, No), bool>", "Either::Left((1, _)) | Either::Right(_)", []int{0}, true},
		{"(Option<No>, Option<bool>)", "(Option::Some(_), _) | (Option::None, Option::None) | (_, Option::Some(_))", []int{0}, true},
		{"(Option<Worse>, bool)", "(_, true) | (Option::None, false) | (_, false)", []int{2}, true},
		{"Tree<No>", "Tree::End | Tree::Fork(_, _, _)", []int{1}, true},
		{"Tree<bool>", "Tree::End | Tree::Fork(_, true, _)", nil, false},
		{"Tree<bool>", "Tree::End | Tree::Fork(_, true, _) | Tree::Fork(_, false, _) | Tree::Fork(_, _, _)", []int{3}, true},
	})
}

// P15: a type with more than MaxParts parts has values, whatever stands in it; with as many it is as others are.
func TestArmsTooBig(t *testing.T) {
	items := enums + " enum Grow<T> { More(T, (T, No)), Less(bool) }"
	with := func(parts int) string { // of Grow<(int, ..)> so many parts
		return "Grow<(" + strings.Repeat("int, ", parts-3) + "int)>"
	}
	arms := "Grow::More(_, _) | Grow::Less(_)"
	holdArms(t, items, []armsCase{
		{with(api.MaxParts - 1), arms, []int{0}, true},
		{with(api.MaxParts - 1), "Grow::Less(_)", nil, true},
		{with(api.MaxParts), arms, nil, true},
		{with(api.MaxParts), "Grow::Less(_)", nil, false},
		{with(api.MaxParts), "Grow::More(_, _) | Grow::Less(true) | Grow::More(_, _)", []int{2}, false},
	})
}

// P15: at the limit of MaxTests, all numbers of a column.
func TestArmsManyNumbers(t *testing.T) {
	var pats []api.Pat
	for i := range api.MaxTests {
		pats = append(pats, api.Pat{Kind: api.PInt, N: i - 3})
	}
	pats[7].N, pats[8].N, pats[9].N = math.MaxInt, math.MinInt, math.MaxInt
	idle, all := Arms(api.Program{}, api.Type{Kind: api.TyInt}, pats)
	if !slices.Equal(idle, []int{9}) || all {
		t.Error(idle, all)
	}
	for range 20000 { // these are no tests: there may be any number of them
		pats = append(pats, anything)
	}
	idle, all = Arms(api.Program{}, api.Type{Kind: api.TyInt}, pats)
	if len(idle) != 20000 || idle[1] != api.MaxTests+1 || !all {
		t.Error(len(idle), all)
	}
}

// groupArms are groups of rows, each of two columns of its own in which no variant of Hue may stand twice. Behind them stand rows that take all of two bools.
func groupArms(groups int, hue int) (api.Type, []api.Pat) {
	t := tupleOf(2*groups, api.Type{Kind: api.TyData, N: hue})
	t.Args = append(t.Args, tupleOf(2, api.Type{Kind: api.TyBool}).Args...)
	var pats []api.Pat
	for g := range groups {
		for m := range 3 {
			c := api.Pat{Kind: api.PCase, N: hue, M: m}
			pats = append(pats, tuple(len(t.Args), map[int]api.Pat{2 * g: c, 2*g + 1: c}))
		}
	}
	for k := range 4 {
		pats = append(pats, tuple(len(t.Args), map[int]api.Pat{2 * groups: is(k / 2), 2*groups + 1: is(k % 2)}))
	}
	return t, pats
}

// P15: whoever tries one column after the other goes through 6^12 ways ahead of the last columns. How much is tried is told by how much is made.
func TestArmsGroups(t *testing.T) {
	p := program(t, "mod main { "+enums+" fn main(n: int) -> int { n } }")
	hue, pats := groupArms(12, 1)
	if idle, all := Arms(p, hue, pats); len(idle) != 0 || !all {
		t.Error(idle, all)
	}
	if made := testing.AllocsPerRun(1, func() { Arms(p, hue, pats) }); made > 200000 {
		t.Error(made)
	}
	if idle, all := Arms(p, hue, pats[:len(pats)-1]); len(idle) != 0 || all {
		t.Error(idle, all)
	}
	slices.Reverse(pats)
	idle, all := Arms(p, hue, pats)
	if len(idle) != 36 || idle[0] != 4 || !all {
		t.Error(idle, all)
	}
}

// P15: a row a pair of columns that leaves both open, and two rows at the end that take all.
func TestArmsWide(t *testing.T) {
	const pairs = 28
	wide := tupleOf(2*pairs+1, api.Type{Kind: api.TyBool})
	var pats []api.Pat
	for i := range pairs {
		pats = append(pats, tuple(len(wide.Args), map[int]api.Pat{i: is(1), pairs + i: is(0)}))
	}
	if idle, all := Arms(api.Program{}, wide, pats); len(idle) != 0 || all {
		t.Error(idle, all)
	}
	pats = append(pats, tuple(len(wide.Args), map[int]api.Pat{2 * pairs: is(0)}), tuple(len(wide.Args), map[int]api.Pat{2 * pairs: is(1)}))
	pats = append(pats, pats[0])
	if idle, all := Arms(api.Program{}, wide, pats); !slices.Equal(idle, []int{pairs + 2}) || !all {
		t.Error(idle, all)
	}
}

// P15: enums within enums, twice in each: as many values, and parts without them, as two to the power of their number.
func TestArmsDeep(t *testing.T) {
	for _, c := range []struct {
		last string
		all  bool
	}{{"{ }", true}, {"{ Z }", false}} {
		items := ""
		for i := range 60 {
			items += fmt.Sprintf("enum E%d { A(E%d, E%d), B(E%d) } ", i, i+1, i+1, i+1)
		}
		holdArms(t, items+"enum E60 "+c.last, []armsCase{{"E0", "", nil, c.all}, {"Option<E0>", "Option::None", nil, c.all}})
	}
}

// P15: enums whose types grow in two ways with each step: as many unlike types. Where a way leads to one that is too big, there are values.
func TestArmsGrowing(t *testing.T) {
	for _, c := range []struct {
		way, last string
		all       bool
	}{
		{"Vec<T>", "{ }", true},
		{"Vec<T>", "{ Z(T) }", false},
		{"Vec<T>", "{ Z(T, No) }", true},
		{"(T, bool)", "{ }", false},
	} {
		items := "enum No { } "
		for i := range 40 {
			items += fmt.Sprintf("enum E%d<T> { A(E%d<Box<T>>), B(E%d<%s>) } ", i, i+1, i+1, c.way)
		}
		holdArms(t, items+"enum E40<T> "+c.last, []armsCase{{"E0<bool>", "", nil, c.all}})
	}
}

// P15: a pattern may look into types up to the limit of tests, one within the other.
func TestArmsNested(t *testing.T) {
	p := program(t, "mod main { "+enums+" fn main(n: int) -> int { n } }")
	bools := api.Type{Kind: api.TyBool}
	deep, pat := bools, is(1)
	for range api.MaxParts - 1 {
		deep = api.Type{Kind: api.TyData, Args: []api.Type{deep}}
		pat = api.Pat{Kind: api.PCase, M: 1, Kids: []api.Pat{pat}}
	}
	other := pat
	other.Kids = []api.Pat{anything}
	idle, all := Arms(p, deep, []api.Pat{pat, other, pat})
	if !slices.Equal(idle, []int{2}) || all {
		t.Error(idle, all)
	}
	idle, all = Arms(p, deep, []api.Pat{pat, {Kind: api.PCase}, other})
	if len(idle) != 0 || !all {
		t.Error(idle, all)
	}
}
