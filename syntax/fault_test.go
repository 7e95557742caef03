package syntax

import (
	"reflect"
	"strings"
	"testing"

	"holdfast/api"
)

// checkFaults holds the faults of texts against their places: a `@`, which is taken out first, stands ahead of the token.
func checkFaults(t *testing.T, kind api.Errno, ahead, behind string, texts ...string) {
	t.Helper()
	for _, marked := range texts {
		marked = ahead + marked + behind
		good, rest, _ := strings.Cut(marked, "@")
		text := good + rest
		want := api.Fault{Kind: kind, At: len(text) - len(strings.TrimLeft(rest, " "))}
		got, fault := Parse(text)
		if fault != want || !reflect.DeepEqual(got, api.Node{}) {
			t.Errorf("%q: %v, %v, not %v", marked, got, fault, want)
		}
	}
}

// P6: a fault of Tokens is Parse's fault, whatever stands ahead of it.
func TestTokenFaults(t *testing.T) {
	checkFaults(t, api.ErrByte, "", "", "@$", "mod mod mod @|", "} @'")
	checkFaults(t, api.ErrToken, "", "", "1 @9223372036854775808", "mod @abcdefghijklmnopqrstu { }")
	checkFaults(t, api.ErrLong, "", "", "@"+strings.Repeat("$", api.MaxText+1), "@mod m { }"+strings.Repeat(" ", api.MaxText))
}

// P6: modules and items: the first token that cannot stand.
func TestItemFaults(t *testing.T) {
	checkFaults(t, api.ErrSyntax, "", "", "@x", "mod @", "mod @mod", "mod m @", "mod m @;", "mod m { @", "mod m { @1 }", "mod m { } @}", "mod m { } @use", "@use a::b;", "@fn f() { }")
	checkFaults(t, api.ErrSyntax, "mod m { ", " }",
		"use @;", "use a @;", "use a @b;", "use a::@;", "use a::@mod;", "use a::b@::c;", "use a::b @}", "use @'a::b;", "fn f() { } @use a::b;", "@mod n { }",
		"pub @impl T for S { }", "pub @pub fn f() { }", "@copy fn f() { }", "pub @copy trait T { }", "@copy copy struct S { }", "@copy pub struct S { }", "@copy", "pub @copy", "pub @use a::b;", "pub @",
		"struct @{ }", "struct S @;", "struct S @( int )", "struct S { @, }", "struct S { x @}", "struct S { x: @}", "struct S { x: int@; }", "struct S { x: int,@, }", "struct S { x: int @y: int }", "struct S { @mut: int }", "struct S { pub @pub x: int }",
		"enum E { @, }", "enum E { A(@) }", "enum E { A(int,@) }", "enum E { A@: int }", "enum E { @pub A }", "enum E { A,@, }", "enum E { A @B }", "enum E { A @{ x: int } }",
		"trait T@<X> { }", "trait T { fn f@<X>(); }", "trait T { fn f() @{ } }", "trait T { fn f() -> int@ }", "trait T { @pub fn f(); }", "trait T { @; }", "trait m@::T { }",
		"impl T @{ }", "impl a::b@::c for S { }", "impl a@::<int> for S { }", "impl T@<int> for S { }", "impl T for @{ }", "impl T for S { fn f() @; }", "impl T for S { fn f@<X>() { } }", "impl T for S { @pub fn f() { } }", "impl @for S { }", "impl<@> T for S { }",
		"fn @() { }", "fn f @{ }", "fn f(@,) { }", "fn f(x: int,@) { }", "fn f(x@) { }", "fn f(@1: int) { }", "fn f(mut @mut x: int) { }", "fn f(x @= int) { }", "fn f() -> @{ }", "fn f()@; ", "fn f(self@::x: int) { }", "fn m@::f() { }", "fn f(@_: int) { }",
	)
}

// P6: gens: lifetimes first, bounds where they may be written.
func TestGensFaults(t *testing.T) {
	checkFaults(t, api.ErrSyntax, "mod m { fn f", "() { } }",
		"<@>", "<'a,@>", "<T,@>", "<T, @'a>", "<'a, T, @'b>", "<'a @'b>", "<@int>", "<T @U>", "<'a: @T>", "<'a: 'b +@>", "<'a:@>", "<T: Copy +@>", "<T:@>", "<T: a::b@::c>", "<T: a@::>", "<T: a@::<int> >", "<T: A@<int> >", "<T: @&int>", "<T: @int>", "<a@::b>", "<'a: 'b,@>", "<T: @(A)>", "<T: A@=>")
	checkFaults(t, api.ErrSyntax, "mod m { struct S", " { } }", "<T@: Copy>", "<'a@: 'b>", "<@>", "<T, @'a>")
	checkFaults(t, api.ErrSyntax, "mod m { enum E", " { } }", "<T@: Copy>", "<'a@: 'b>", "<@>", "<T, @'a>")
}

// P6: types.
func TestTypeFaults(t *testing.T) {
	checkFaults(t, api.ErrSyntax, "mod m { fn f(x: ", ") { } }",
		"@", "@1", "@mut int", "@'a", "@_", "@[int]", "(int,@)", "(@,)", "(int @int)", "&@", "&'a @'b int", "&mut @mut int", "&mut @'a int", "&&@", "& & && &@",
		"fn @-> int", "fn(@,) -> int", "fn(int,@) -> int", "fn()@", "fn() ->@", "fn mut @once() -> int", "fn mut @'a() -> int", "fn 'a @'b() -> int", "fn(x@: int) -> int",
		"a::b@::c", "a@::", "a@::<int>", "a@::int", "a@::'a", "S<@>", "S<'a,@>", "S<int,@>", "S<int, @'a>", "S<'a @int>", "S<int@", "S<int@>=", "S<@<int>", "S<@1>", "int@<int>", "a@.b")
}

// P6: expressions.
func TestExpressionFaults(t *testing.T) {
	checkFaults(t, api.ErrSyntax, "mod m { fn f() { let x = ", "; } }",
		"@", "@=", "a = @", "a = b = @", "a @: b", "a || @|| b", "a && @mut b", "a @& b", "a == b @== c", "a < b @> c", "a <= b @!= c", "a + @", "a * @/ b", "a @! b", "a @-> b",
		"!@", "*@", "&@", "&&mut @mut x", "-@+ 1", "@+ 1",
		"f(@,)", "f(1,@)", "f(1 @2)", "f(1@", "x.@", "x.@(1)", "x.@mut", "x.@'a", "x.@-1", "1 @2", "a @b", "x@[1]",
		"a::b::c@::d", "a@::", "a@::1", "a@::(b)", "a@::mut", "a::b@::'a", "a::<@>", "a::<int,@>", "a::<@'a>", "a::<int>@::b", "a::<int>@::<int>", "a@::<=", "@int", "@'a",
		"(1,@)", "(@,)", "(1@", "(1 @2)", "@)", "@_",
	)
}

// P6: the things that expressions are made of.
func TestThingFaults(t *testing.T) {
	checkFaults(t, api.ErrSyntax, "mod m { fn f() { let x = ", "; } }",
		"if { }@", "if a@", "if a @b { }", "if a { } else @b", "if a { } else@", "if a { } else @match b { }", "if @let x { }", "@else { }", "if a { } else { } @else { }",
		"match x@", "match { }@", "match x { @, }", "match x { 1 @}", "match x { 1 => @}", "match x { 1 => @, }", "match x { 1 => 2 @3 => 4 }", "match x { 1 => { } @_ => { } }", "match x { 1 => 2,@, }", "match x { 1 @|| 2 => 3 }", "match x { 1 @if a => 2 }", "match x { 1 @= 2 }",
		"while { }@", "while a@", "loop@", "loop @a { }", "break @1", "next @a", "panic @a",
		"return @=> 1", "return @== 1", "return @.x", "return @:: a", "return @else",
		"make @{ }", "make a@", "make a::b@::c { }", "make a@:: { }", "make a::<@> { }", "make S { @, }", "make S { x @}", "make S { x: @}", "make S { x: 1,@, }", "make S { x: 1 @y: 2 }", "make S { @1: 1 }", "make S@(1)", "make S @< int > { }", "make @int { }",
		"fn@() { }", "fn mut @once[]() { }", "fn @'a[]() { }", "fn[]@{ }", "fn[@,]() { }", "fn[x,@]() { }", "fn[@mut x]() { }", "fn[@&&x]() { }", "fn[& @&x]() { }", "fn[&mut @mut x]() { }", "fn[x@.y]() { }", "fn[x@::y]() { }", "fn[@1]() { }", "fn[]() @x", "fn[](x@) { }", "fn[]() -> @{ }", "fn @f() { }",
		"spawn @{ }", "spawn[]@() { }", "spawn[] -> @{ }", "spawn[x @y] { }", "spawn @mut[] { }",
	)
}

// P6: statements.
func TestStatementFaults(t *testing.T) {
	checkFaults(t, api.ErrSyntax, "mod m { fn f() { ", " } }",
		"@;", "a; @;", "if a { };@;", "let x;@;", "let @;", "let x@", "let x = 1@", "let mut @mut x;", "let x: @;", "let x: int @x;", "let x = @;", "let x = 1 @: int;", "let @(a, b) = c;", "let x@::y;", "let x @y;", "@mut x", "let @_ = 1;",
		"1 @2", "a @let x;", "a @{ }", "if a { } @+ 1", "if a { } @.x", "if a { } @= 1", "if a { } @== 1", "{ } @.x", "{ } * @= 1", "loop { } @/ 2", "match a { } @.x", "while a { } @|| b", "if a { } else @", "fn @f() { }", "@struct S { }", "@else { }", "@pub", "return a @b",
	)
	checkFaults(t, api.ErrSyntax, "", "", "mod m { fn f() { @", "mod m { fn f() { 1@", "mod m { fn f() { } @", "mod m { fn f() { let x = 1; } @")
}

// P6: patterns.
func TestPatternFaults(t *testing.T) {
	checkFaults(t, api.ErrSyntax, "mod m { fn f() { match x { ", " => 1 } } }",
		"@", "-@", "- @-1", "-@a", "@+ 1", "(1,@)", "(@,)", "(1 @2)", "(1@", "ref@", "ref @ref x", "ref mut @mut x", "ref @_", "ref @1", "mut@", "mut @ref x", "mut @1", "ref a@::b", "mut a@::b", "@&x", "@'a", "@int", "@*x",
		"a@(1)", "a::b::c@::d", "a@::", "a@::<int>", "a@::_", "A::B(@)", "A::B(1,@)", "A::B(1)@(2)", "A::B @{ }", "a@.b", "_ @_", "1@..2", "true @&& true")
}

// P6: MaxDepth nodes may stand within one another; of those that are deeper the first one is told, a node ahead of its kids.
func TestDeep(t *testing.T) {
	minus := func(n int) string { return strings.Repeat("-", n) }
	// Four nodes, Prog, Mod, Fn and EBlock, stand around what the block gives.
	checkFaults(t, api.ErrDeep, "mod m { fn f() { ", " } }",
		minus(76)+"@1",
		minus(76)+"@-1",
		minus(76)+"@"+minus(100)+"1",
		"("+minus(75)+"@1, "+minus(200)+"1)",
		"("+minus(74)+"1, "+minus(75)+"@1)",
		minus(10)+strings.Repeat("(", 100)+minus(66)+"@1"+strings.Repeat(")", 100),
		"@f"+strings.Repeat("()", 76),
		strings.Repeat("{", 76)+"@{}"+strings.Repeat("}", 76),
		strings.Repeat("&", 76)+" @x",
		strings.Repeat("&&", 38)+"@&&x",
		strings.Repeat("&&", 37)+"-&@-x",
		strings.Repeat("a = ", 75)+"@a = a",
	)
	// Around a type of a trait's function four nodes stand too.
	checkFaults(t, api.ErrDeep, "mod m { trait T { fn f() -> ", "; } }",
		strings.Repeat("& ", 76)+"@int",
		strings.Repeat("S<", 76)+"@int"+strings.Repeat(">", 76),
		strings.Repeat("fn() -> ", 76)+"@int",
	)
}

func TestAsDeepAsCanBe(t *testing.T) {
	for _, text := range []string{
		strings.Repeat("-", 75) + "1",
		strings.Repeat("(", 1000) + strings.Repeat("-", 75) + "1" + strings.Repeat(")", 1000),
		"f" + strings.Repeat("()", 75),
		strings.Repeat("{", 76) + strings.Repeat("}", 76),
		strings.Repeat("&&", 37) + "-x",
		strings.Repeat("(", 2900) + strings.Repeat(")", 2900),
	} {
		n, fault := Parse("mod m { fn f() { " + text + " } }")
		if fault != (api.Fault{}) || n.Kind != api.Prog || len(n.Kids) != 1 {
			t.Errorf("%q: %v", text, fault)
		}
	}
}

// P6: a token that cannot stand is told ahead of a node that is too deep.
func TestSyntaxAheadOfDeep(t *testing.T) {
	checkFaults(t, api.ErrSyntax, "", "", "mod m { fn f() { "+strings.Repeat("-", 200)+"1 } } @x", "mod m { fn f() { "+strings.Repeat("{", 2000)+"@")
}

// P1: texts of any bytes have an answer.
func TestAnyText(t *testing.T) {
	m := &maker{state: 1}
	for range 2000 {
		bytes := make([]byte, m.pick(60))
		for i := range bytes {
			bytes[i] = byte(m.pick(256))
		}
		n, fault := Parse(string(bytes))
		if fault.Kind == api.OK && n.Kind != api.Prog || fault.Kind != api.OK && !reflect.DeepEqual(n, api.Node{}) {
			t.Errorf("%q: %v, %v", bytes, n, fault)
		}
	}
	for _, piece := range []string{"(", "{", "-", "&", "[", "<", "mod m { fn f() { ", "if ", "fn", "return ", "match ", "a::", "'a"} {
		Parse(strings.Repeat(piece, api.MaxText/len(piece)))
		Parse("mod m { fn f() { " + strings.Repeat(piece, (api.MaxText-20)/len(piece)))
	}
}
