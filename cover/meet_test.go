package cover

import (
	"strings"
	"testing"

	"holdfast/api"
)

// P16: two patterns of a type, and whether they meet; either way round.
func TestMeet(t *testing.T) {
	for _, c := range []struct {
		written, arms string
		want          bool
	}{
		{"int", "_ | _", true},
		{"int", "_ | 1", true},
		{"int", "1 | 1", true},
		{"int", "1 | -1", false},
		{"bool", "true | false", false},
		{"bool", "false | false", true},
		{"()", "() | ()", true},
		{"()", "() | _", true},
		{"(bool, bool)", "(true, _) | (_, false)", true},
		{"(bool, bool)", "(true, _) | (false, _)", false},
		{"(bool, bool)", "(true, false) | (true, true)", false},
		{"Hue", "Hue::Red | Hue::Red", true},
		{"Hue", "Hue::Red | Hue::Green", false},
		{"Leaf", "Leaf::Bare | Leaf::Num(_)", false},
		{"Leaf", "Leaf::Num(1) | Leaf::Num(_)", true},
		{"Leaf", "Leaf::Num(1) | Leaf::Num(2)", false},
		{"Leaf", "Leaf::Two(true, _) | Leaf::Two(_, Hue::Blue)", true},
		{"Leaf", "Leaf::Two(true, Hue::Blue) | Leaf::Two(_, Hue::Red)", false},
		{"Either<Either<int, bool>, Hue>", "Either::Left(Either::Left(_)) | Either::Left(Either::Right(_))", false},
		{"Either<Either<int, bool>, Hue>", "Either::Left(Either::Left(_)) | Either::Left(Either::Left(7))", true},
		{"T", "_ | _", true},
		{"Held", "_ | _", true},
		{"Pair<No>", "_ | _", true},
		{"Box<No>", "_ | _", true},
		{"&No", "_ | _", true},
		{"(Held, bool)", "(_, true) | (_, true)", true},
		{"No", "_ | _", false},
		{"Worse", "_ | Worse::A(_)", false},
		{"Worse", "Worse::B(1, _) | Worse::B(_, _)", false},
		{"(int, No)", "(1, _) | _", false},
		{"(int, No)", "(_, _) | (_, _)", false},
		{"Option<No>", "_ | Option::None", true},
		{"Option<No>", "_ | Option::Some(_)", false},
		{"Option<No>", "Option::Some(_) | Option::Some(_)", false},
		{"(Option<No>, bool)", "(_, true) | (_, _)", true},
		{"(Option<No>, bool)", "(_, true) | (Option::Some(_), _)", false},
		{"Either<(bool, No), Hue>", "Either::Left((true, _)) | _", false},
		{"Tree<No>", "Tree::End | _", true},
		{"Tree<No>", "Tree::Fork(_, _, _) | _", false},
	} {
		m := match(t, enums, c.written, c.arms)
		if got := Meet(m.program, m.t, m.pats[0], m.pats[1]); got != c.want {
			t.Errorf("%s: %s: %v", c.written, c.arms, got)
		}
		if got := Meet(m.program, m.t, m.pats[1], m.pats[0]); got != c.want {
			t.Errorf("%s: %s, the other way round: %v", c.written, c.arms, got)
		}
	}
}

// P16: a part that is too big has values, whatever stands in it.
func TestMeetTooBig(t *testing.T) {
	items := enums + " enum Grow<T> { More((T, No)) }"
	for parts, want := range map[int]bool{3: false, api.MaxParts - 1: false, api.MaxParts: true} {
		m := match(t, items, "Grow<("+strings.Repeat("int, ", parts-3)+"int)>", "Grow::More(_) | _")
		if len(m.t.Args[0].Args) == 0 && parts > 3 {
			t.Fatal("no tuple")
		}
		if got := Meet(m.program, m.t, m.pats[0], m.pats[1]); got != want {
			t.Errorf("%d parts: %v", parts, got)
		}
	}
}

// P16: patterns at the limit of tests.
func TestMeetMany(t *testing.T) {
	const length = api.MaxParts - 1
	wide := tupleOf(length, api.Type{Kind: api.TyBool})
	a, b, c := map[int]api.Pat{}, map[int]api.Pat{}, map[int]api.Pat{}
	for i := range length {
		a[i], b[i], c[i] = is(i%2), is(i%2), is(i%2)
	}
	c[length-1] = is(length % 2)
	if !Meet(api.Program{}, wide, tuple(length, a), tuple(length, b)) {
		t.Error("alike, but do not meet")
	}
	if Meet(api.Program{}, wide, tuple(length, a), tuple(length, c)) {
		t.Error("unlike in the last part, but meet")
	}
}
