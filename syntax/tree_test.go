package syntax

import (
	"testing"

	"holdfast/api"
)

// around is a text around a thing, and the way from its tree's root to the thing's node.
type around struct {
	ahead, behind string
	way           []int
}

func (a around) tell(t *testing.T, text string) string {
	n, fault := Parse(a.ahead + text + a.behind)
	if fault != (api.Fault{}) {
		t.Errorf("%q: %v", text, fault)
		return ""
	}
	for _, kid := range a.way {
		n = n.Kids[kid]
	}
	return tell(n, len(a.ahead))
}

// check holds the trees of things against what they are told to be.
func (a around) check(t *testing.T, cases [][2]string) {
	t.Helper()
	for _, c := range cases {
		if got := a.tell(t, c[0]); got != c[1] {
			t.Errorf("%q:\n%s, not\n%s", c[0], got, c[1])
		}
	}
}

// P6: modules and items.
func TestItemTrees(t *testing.T) {
	around{}.check(t, [][2]string{
		{"", `Prog@0`},
		{" mod m { } mod n { }", `Prog@1 [Mod@1 m, Mod@11 n]`},
		{"mod m { use a::b; use c # r\n :: d; }", `Prog@0 [Mod@0 m [Use@8 a::b, Use@18 c::d]]`},
	})
	around{ahead: "mod m { use a::b; ", behind: " }", way: []int{0, 1}}.check(t, [][2]string{
		{"struct S { }", `Data@0 S [Gens@9, Variant@9]`},
		{"pub copy struct S<'a, T> { pub x: T, y: (bool), }", `Data@0 M3 S [Gens@17 [GLife@18 'a, GType@22 T], Variant@25 [Field@27 M1 x [YPath@34 T], Field@37 y [YBool@41]]]`},
		{"copy enum E { A, B(int, (T)), }", `Data@0 N1 M2 E [Gens@12, Variant@14 A, Variant@17 B [Field@19 [YInt@19], Field@25 [YPath@25 T]]]`},
		{"pub enum E<T> { }", `Data@0 N1 M1 E [Gens@10 [GType@11 T]]`},
		{"trait T { }", `Trait@0 T`},
		{"pub trait T { fn f(self: &Self); fn g() -> int; }", `Trait@0 M1 T [Fn@14 N1 f [Gens@18, Param@19 self [YRef@25 [YPath@26 Self]], YTuple@31], Fn@33 g [Gens@37, YInt@43]]`},
		{"impl a::T for S { fn f(mut x: int) { } }", `Impl@0 a::T [Gens@5, YPath@14 S, Fn@18 N1 f [Gens@22, Param@23 M1 x [YInt@30], YTuple@35, EBlock@35]]`},
		{"impl<'a: 'b + 'c, 'b, T: 'a + Copy + m::U, V> T for V { }", `Impl@0 T [Gens@4 [GLife@5 'a [YLife@9 'b, YLife@14 'c], GLife@18 'b, GType@22 T [YLife@25 'a, YPath@30 Copy, YPath@37 m::U], GType@43 V], YPath@52 V]`},
		{"pub fn f<T>(a: int, mut b: T) -> (int, bool) { }", `Fn@0 N2 M1 f [Gens@8 [GType@9 T], Param@12 a [YInt@15], Param@20 M1 b [YPath@27 T], YTuple@33 [YInt@34, YBool@39], EBlock@45]`},
		{"fn f() -> () { }", `Fn@0 f [Gens@4, YTuple@10, EBlock@13]`},
	})
}

// P6: types.
func TestTypeTrees(t *testing.T) {
	around{ahead: "mod m { trait T { fn f() -> ", behind: "; } }", way: []int{0, 0, 0, 1}}.check(t, [][2]string{
		{"int", `YInt@0`},
		{"bool", `YBool@0`},
		{"()", `YTuple@0`},
		{"(int)", `YInt@1`},
		{"((int, bool))", `YTuple@1 [YInt@2, YBool@7]`},
		{"&T", `YRef@0 [YPath@1 T]`},
		{"&'a mut T", `YRef@0 N1 'a [YPath@8 T]`},
		{"&&T", `YRef@0 [YRef@1 [YPath@2 T]]`},
		{"&&'a mut &T", `YRef@0 [YRef@1 N1 'a [YRef@9 [YPath@10 T]]]`},
		{"fn() -> int", `YFn@0 [YInt@8]`},
		{"fn 'a mut(int, T) -> ()", `YFn@0 N1 'a [YInt@10, YPath@15 T, YTuple@21]`},
		{"fn once(int) -> fn() -> T", `YFn@0 N2 [YInt@8, YFn@16 [YPath@24 T]]`},
		{"a :: b", `YPath@0 a::b`},
		{"S<'a>", `YPath@0 S [YLife@2 'a]`},
		{"m::S<'a, 'b, int, S<T>>", `YPath@0 m::S [YLife@5 'a, YLife@9 'b, YInt@13, YPath@18 S [YPath@20 T]]`},
	})
}

var inLet = around{ahead: "mod m { fn f() { let x = ", behind: "; } }", way: []int{0, 0, 2, 0, 0}}

// P6: operators, from what binds least, and what stands ahead of or behind things.
func TestOperatorTrees(t *testing.T) {
	inLet.check(t, [][2]string{
		{"a = b = c", `EAssign@2 [EPath@0 a, EAssign@6 [EPath@4 b, EPath@8 c]]`},
		{"a || b || c && d && e", `EOr@7 [EOr@2 [EPath@0 a, EPath@5 b], EAnd@17 [EAnd@12 [EPath@10 c, EPath@15 d], EPath@20 e]]`},
		{"a == b = c < d", `EAssign@7 [EBin@2 == [EPath@0 a, EPath@5 b], EBin@11 < [EPath@9 c, EPath@13 d]]`},
		{"a - b + c * d / e % f", `EBin@6 + [EBin@2 - [EPath@0 a, EPath@4 b], EBin@18 % [EBin@14 / [EBin@10 * [EPath@8 c, EPath@12 d], EPath@16 e], EPath@20 f]]`},
		{"a * (b + c)", `EBin@2 * [EPath@0 a, EBin@7 + [EPath@5 b, EPath@9 c]]`},
		{"1 != 2", `EBin@2 != [EInt@0 N1, EInt@5 N2]`},
		{"1 <= 2", `EBin@2 <= [EInt@0 N1, EInt@5 N2]`},
		{"1 >= 2", `EBin@2 >= [EInt@0 N1, EInt@5 N2]`},
		{"1 > 2", `EBin@2 > [EInt@0 N1, EInt@4 N2]`},
		{"-!*x", `EUn@0 - [EUn@1 ! [EDeref@2 [EPath@3 x]]]`},
		{"& &mut x", `ERef@0 [ERef@2 N1 [EPath@7 x]]`},
		{"&&x", `ERef@0 [ERef@1 [EPath@2 x]]`},
		{"&&mut *x", `ERef@0 [ERef@1 N1 [EDeref@6 [EPath@7 x]]]`},
		{"a && &b", `EAnd@2 [EPath@0 a, ERef@5 [EPath@6 b]]`},
		{"-a * b", `EBin@3 * [EUn@0 - [EPath@1 a], EPath@5 b]`},
		{"*a.b", `EDeref@0 [EField@2 b [EPath@1 a]]`},
		{"f()", `ECall@1 [EPath@0 f]`},
		{"f(1, x)(2)", `ECall@7 [ECall@1 [EPath@0 f, EInt@2 N1, EPath@5 x], EInt@8 N2]`},
		{"x.0.1", `EField@3 N1 [EField@1 [EPath@0 x]]`},
		{"x.y(1).2", `EField@6 N2 [ECall@3 [EField@1 y [EPath@0 x], EInt@4 N1]]`},
		{"(f)()", `ECall@3 [EPath@1 f]`},
	})
}

// P6: the things that expressions are made of.
func TestThingTrees(t *testing.T) {
	inLet.check(t, [][2]string{
		{"007", `EInt@0 N7`},
		{"true", `EBool@0 N1`},
		{"false", `EBool@0`},
		{"x", `EPath@0 x`},
		{"a::b :: c", `EPath@0 a::b::c`},
		{"f::<int, T>", `EPath@0 f [YInt@4, YPath@9 T]`},
		{"a::b::c::<int>", `EPath@0 a::b::c [YInt@10]`},
		{"()", `ETuple@0`},
		{"(1)", `EInt@1 N1`},
		{"((1, x))", `ETuple@1 [EInt@2 N1, EPath@5 x]`},
		{"if a { }", `EIf@0 [EPath@3 a, EBlock@5]`},
		{"if a { 1 } else { 2 }", `EIf@0 [EPath@3 a, EBlock@5 N1 [EInt@7 N1], EBlock@16 N1 [EInt@18 N2]]`},
		{"if a { } else if b { } else { }", `EIf@0 [EPath@3 a, EBlock@5, EIf@14 [EPath@17 b, EBlock@19, EBlock@28]]`},
		{"if a { } else { } . x", `EField@18 x [EIf@0 [EPath@3 a, EBlock@5, EBlock@14]]`},
		{"match x { }", `EMatch@0 [EPath@6 x]`},
		{"match x { 1 => 2, (a) => { }, }", `EMatch@0 [EPath@6 x, Arm@10 [PInt@10 N1, EInt@15 N2], Arm@18 [PBind@19 a, EBlock@25]]`},
		{"match x { (1, _) => return }", `EMatch@0 [EPath@6 x, Arm@10 [PTuple@10 [PInt@11 N1, PAny@14], EReturn@20]]`},
		{"while a { }", `EWhile@0 [EPath@6 a, EBlock@8]`},
		{"loop { }", `ELoop@0 [EBlock@5]`},
		{"{ 1 }", `EBlock@0 N1 [EInt@2 N1]`},
		{"break", `EBreak@0`},
		{"next", `ENext@0`},
		{"panic", `EPanic@0`},
		{"(return)", `EReturn@1`},
		{"return x = 1", `EReturn@0 [EAssign@9 [EPath@7 x, EInt@11 N1]]`},
		{"a + return b == c", `EBin@2 + [EPath@0 a, EReturn@4 [EBin@13 == [EPath@11 b, EPath@16 c]]]`},
		{"make S { }", `EMake@0 S`},
		{"make m::S::<int, T> { x: 1, y: 2 = 3, }", `EMake@0 M2 m::S [YInt@12, YPath@17 T, EInit@22 x [EInt@25 N1], EInit@28 y [EAssign@33 [EInt@31 N2, EInt@35 N3]]]`},
		{"fn[]() { }", `EClosure@0 [YTuple@7, EBlock@7]`},
		{"fn mut[x, &y, &mut z](a: int, mut b: T) -> int { a }", `EClosure@0 N1 M3 [ECapture@7 x, ECapture@10 N1 y, ECapture@14 N2 z, Param@22 a [YInt@25], Param@30 M1 b [YPath@37 T], YInt@43, EBlock@47 N1 [EPath@49 a]]`},
		{"fn once[]() -> () { }(1)", `ECall@21 [EClosure@0 N2 [YTuple@15, EBlock@18], EInt@22 N1]`},
		{"spawn[] { }", `ESpawn@0 [YTuple@8, EBlock@8]`},
		{"spawn[x, &y] -> int { 1 }", `ESpawn@0 M2 [ECapture@6 x, ECapture@9 N1 y, YInt@16, EBlock@20 N1 [EInt@22 N1]]`},
	})
}

// P6: statements, and which of them is what a block gives.
func TestBlockTrees(t *testing.T) {
	around{ahead: "mod m { fn f() ", behind: " }", way: []int{0, 0, 2}}.check(t, [][2]string{
		{"{}", `EBlock@0`},
		{"{x}", `EBlock@0 N1 [EPath@1 x]`},
		{"{x;}", `EBlock@0 [EPath@1 x]`},
		{"{let x;}", `EBlock@0 [ELet@1 x]`},
		{"{let mut x: int;}", `EBlock@0 [ELet@1 N1 M1 x [YInt@12]]`},
		{"{let x = 1;}", `EBlock@0 [ELet@1 N2 x [EInt@9 N1]]`},
		{"{let x: T = 1; x}", `EBlock@0 N1 [ELet@1 N3 x [YPath@8 T, EInt@12 N1], EPath@15 x]`},
		{"{if a {}}", `EBlock@0 N1 [EIf@1 [EPath@4 a, EBlock@6]]`},
		{"{if a {};}", `EBlock@0 [EIf@1 [EPath@4 a, EBlock@6]]`},
		{"{if a {} -1}", `EBlock@0 N1 [EIf@1 [EPath@4 a, EBlock@6], EUn@9 - [EInt@10 N1]]`},
		{"{{} (1)}", `EBlock@0 N1 [EBlock@1, EInt@5 N1]`},
		{"{{1} {2};}", `EBlock@0 [EBlock@1 N1 [EInt@2 N1], EBlock@5 N1 [EInt@6 N2]]`},
		{"{loop {} x}", `EBlock@0 N1 [ELoop@1 [EBlock@6], EPath@9 x]`},
		{"{match a {} match b {}}", `EBlock@0 N1 [EMatch@1 [EPath@7 a], EMatch@12 [EPath@18 b]]`},
		{"{while a {} *b = 1;}", `EBlock@0 [EWhile@1 [EPath@7 a, EBlock@9], EAssign@15 [EDeref@12 [EPath@13 b], EInt@17 N1]]`},
		{"{(if a {}) + 1}", `EBlock@0 N1 [EBin@11 + [EIf@2 [EPath@5 a, EBlock@7], EInt@13 N1]]`},
		{"{a; b}", `EBlock@0 N1 [EPath@1 a, EPath@4 b]`},
	})
}

// P6: patterns.
func TestPatternTrees(t *testing.T) {
	around{ahead: "mod m { fn f() { match x { ", behind: " => 1 } } }", way: []int{0, 0, 2, 0, 1, 0}}.check(t, [][2]string{
		{"_", `PAny@0`},
		{"0", `PInt@0`},
		{"- 9223372036854775807", `PInt@0 N-9223372036854775807`},
		{"true", `PBool@0 N1`},
		{"false", `PBool@0`},
		{"()", `PTuple@0`},
		{"(_)", `PAny@1`},
		{"((1, a))", `PTuple@1 [PInt@2 N1, PBind@5 a]`},
		{"ref x", `PBind@0 N1 x`},
		{"ref mut x", `PBind@0 N2 x`},
		{"mut x", `PBind@0 M1 x`},
		{"x", `PBind@0 x`},
		{"A::B", `PCase@0 A::B`},
		{"m::A::B(_, (x))", `PCase@0 m::A::B [PAny@8, PBind@12 x]`},
		{"A::B(A::C(1))", `PCase@0 A::B [PCase@5 A::C [PInt@10 N1]]`},
	})
}
