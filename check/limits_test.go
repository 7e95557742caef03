package check

import (
	"fmt"
	"strings"
	"testing"

	"holdfast/api"
)

// repeated is a list in which one thing stands so many times.
func repeated(one string, count int) string {
	return strings.TrimSuffix(strings.Repeat(one+", ", count), ", ")
}

// wide is a type with so many parts.
func wide(parts int) string {
	return "(" + repeated("int", parts-1) + ")"
}

// wideValue is a value of such a type.
func wideValue(parts int) string {
	return "(" + repeated("1", parts-1) + ")"
}

// P17: no expression is of a type with more than MaxParts parts.
func TestTooBigTypes(t *testing.T) {
	const own = "struct P<T> { x: T, y: (T, T), z: &'static (T, T, int) } fn f<T>() -> (T, T) { panic } fn g<T>(x: (T, T)) -> int { 1 } fn h<T>(x: &T) -> T { panic } fn c<T: Copy>(x: T) -> T { x }"
	big, most, value := wide(61), wide(60), wideValue(60)
	half, halfValue := wide(30), wideValue(30) // a pair of these has 61 parts
	less := wide(29)
	refusesBlocks(t, api.ErrMany, own,
		"@"+wideValue(61)+"; n", "@"+wideValue(61), "let x = @"+wideValue(61)+"; n", "let x: int = @"+wideValue(61)+"; n", "let x: "+big+" = @"+wideValue(61)+"; n", "@&"+value+"; n", "&@"+wideValue(61)+"; n", "let x: "+big+"; @x; n", "let x: "+big+"; (@x).0", "let x: "+most+"; @&x; n", "let x: "+most+"; @(x, 1); n", "let x: &"+most+"; *@x; n", "let x: "+half+"; (n, @(x, x)); n",
		"let p: P<"+half+">; p@.y; n", "let p: P<"+wide(29)+">; p.y; p@.z; n", "f::<"+half+">@(); n", "let x: int = f::<"+half+">@(); n", "boxed@("+value+"); n", "let x = boxed@("+value+"); y", "Option::Some@("+value+"); n", "make P { x: "+halfValue+", y: @("+halfValue+", "+halfValue+"), z: y }; n", "@make P { x: "+value+", y: panic, z: panic }; n",
		"let x: "+big+" = panic; @x; n", "@fn[](x: "+wide(59)+") { }; n", "@fn[]() -> "+most+" { panic }; n", "@spawn[] -> "+wide(60)+" { panic }; n", "fn[](x: "+big+") { @x; }; n", "let x: "+big+"; fn[x]() { @x; }; n", "let x: "+big+"; fn[&x]() { *@x; }; n", "let x: "+big+" = if true { @"+wideValue(61)+" } else { panic }; n", "match @"+wideValue(61)+" { _ => 1 }", "let x: "+most+"; match x { ref y => { @y; 1 } }", "let x: "+big+"; @x = panic; n", "let f: fn("+wide(59)+") -> int; (@f)(panic)")
	passes(t, own, wideValue(60)+"; n", "let x: "+most+" = "+value+"; x; n", "let x: "+big+"; n", "let x: "+big+" = panic; n", "let p: P<"+less+">; p.x; p.y; n", "let p: P<"+wide(28)+">; p.z; n", "let x: &"+wide(59)+" = &"+wideValue(59)+"; *x; n", "g::<"+big+">(panic)", "h::<"+most+">(panic); n", "g::<"+half+">(panic)", "f::<"+less+">(); n", "boxed("+wideValue(59)+"); n", "fn[](x: "+wide(58)+") { }; n", "spawn[] -> "+wide(59)+" { panic }; n", "match "+value+" { _ => 1 }", "let x: "+most+"; match x { ref y => 1 }", "c("+value+"); n")
	// What is captured is not looked at; what is too big has no trait.
	if _, fault := Check(items(t, inMain(own, "let x: "+big+"; fn[x]() { }; fn[&x](y: "+wide(57)+") { }; n"))); fault != (api.Fault{}) {
		t.Error(fault)
	}
	refusesBlocks(t, api.ErrSend, own, "let x: "+big+"; spawn[@x] { }; n", "let x: "+most+"; spawn[@&x] { }; n", "@spawn[] -> "+big+" { panic }; n")
	passes(t, own, "let x: "+wide(59)+"; spawn[&x] { }; n", "let x: "+most+"; spawn[x] { }; n")
	// Ahead of what is wanted, behind what a type must have.
	refusesBlocks(t, api.ErrBound, own, "c::<"+big+">@(panic); n")
	refusesBlocks(t, api.ErrGuess, own+" fn two<T, U>(x: T) -> T { x }", "two@("+value+"); n")
	refusesBlocks(t, api.ErrType, own, "let x: "+big+" = @n; n", "let x: "+big+" = @"+value+"; n", "let x: "+big+" = Option::Some@(1); n")
	refusesBlocks(t, api.ErrMany, own, "let x: "+big+" = c(@"+wideValue(61)+"); n")
}

// P17: no pattern is of a type with more than MaxParts parts.
func TestTooBigPatterns(t *testing.T) {
	own := "enum W<T> { X(T, (T, T)), Y(" + wide(61) + "), Z }"
	half := wide(30)
	refusesBlocks(t, api.ErrMany, own, "let w: W<"+half+">; match w { W::X(x, @y) => 1, _ => 2 }", "let w: W<"+half+">; match w { W::X(x, @_) => 1, _ => 2 }", "let w: W<"+half+">; match w { W::X(x, @true) => 1, _ => 2 }", "let w: W<"+half+">; match w { W::X(x, @(y, y)) => 1, _ => 2 }", "match W::Z::<int> { W::Y(@q::X) => 1, _ => 2 }", "match W::Z::<int> { W::Y(@x) => 1, _ => 2 }")
	refusesBlocks(t, api.ErrType, own, "let w: W<"+half+">; match w { W::X(@true, y) => 1, _ => 2 }")
	passes(t, own, "let w: W<"+wide(29)+">; match w { W::X(x, (y, _)) => 1, _ => 2 }", "let w: W<"+half+">; match w { W::Z => 1, _ => 2 }")
}

// tests are patterns of which each has so many parts.
func tests(arms, each int) string {
	out := ""
	for i := range arms {
		out += "("
		for j := range each - 1 {
			if j > 0 {
				out += ", "
			}
			out += fmt.Sprint(i)
		}
		out += ") => 1, "
	}
	return out
}

// P17: the parts of all patterns of a match that test something are at most MaxTests.
func TestManyTests(t *testing.T) {
	matched := "match " + wideValue(5) + " { "
	last := "(x, y, _, ref z) => 2 }"
	passes(t, "", matched+tests(23, 5)+"(-1, -1, -1, q) => 3, "+"_ => 2 }", "match (n, true) { "+tests2(59)+"_ => 1 }")
	refusesBlocks(t, api.ErrMany, "", "@"+matched+tests(24, 5)+last, "@"+matched+tests(24, 5)+"(0, 0, 0, 0) => 2, (a, b, c, d) => 3 }", "@"+matched+tests(23, 5)+"(-1, -1, -1, -1) => 3, (a, b, c, d) => 3 }", "@"+matched+tests(25, 5)+" }", "@match (n, true) { "+tests2(61)+"_ => 1 }", "(@"+matched+tests(25, 5)+" }) + x")
	passes(t, "", matched+tests(23, 5)+last)
	// Ahead of idle arms and of what is left, behind what stands within.
	refusesBlocks(t, api.ErrMany, "", "@match n { "+strings.Repeat("0 => 1, ", 121)+"}")
	refusesBlocks(t, api.ErrIdle, "", "match n { 0 => 1, @0 => 1, "+strings.Repeat("0 => 1, ", 118)+"}")
	refusesBlocks(t, api.ErrName, "", "match n { "+strings.Repeat("0 => 1, ", 121)+"_ => @x }")
}

// tests2 are patterns of two parts each.
func tests2(arms int) string {
	out := ""
	for i := range arms {
		out += fmt.Sprintf("(%d, x) => 1, ", i)
	}
	return out
}

// P17: what is wanted may be of any size: it doubles with each call here, and is held against others all the same.
func TestHugeWanted(t *testing.T) {
	const own = "fn g<T>(x: (T, T)) -> T { panic } fn two<T, U>(x: ((T, T), (U, U))) -> (T, U) { panic } fn same<T>(x: T) -> (T, T) { panic } fn c<T: Copy>(x: T) -> T { x } struct P<T> { x: (T, T) }"
	for _, depth := range []int{6, 30, 60} {
		// All that is given is told by nothing but what is wanted, till something is too big.
		ahead := "g::<int>(" + strings.Repeat("g(", depth-1)
		refusesBlocks(t, api.ErrMany, own, ahead+"g@(panic)"+strings.Repeat(")", depth)+"; n")
		refusesBlocks(t, api.ErrType, own, ahead+"@1"+strings.Repeat(")", depth)+"; n", ahead+"(@1, true)"+strings.Repeat(")", depth)+"; n")
		refusesBlocks(t, api.ErrBound, own, ahead+"c@(panic)"+strings.Repeat(")", depth)+"; n")
		ahead = "two::<int, int>(" + strings.Repeat("two(", depth-1)
		refusesBlocks(t, api.ErrMany, own, ahead+"same@(panic)"+strings.Repeat(")", depth)+"; n")
	}
	refusesBlocks(t, api.ErrMany, own, "let p: P<int> = make P { x: (1, 2) }; "+strings.Repeat("let p = boxed(p); ", 56)+"let p = (p, 1); let p = boxed@(p); n")
}

// P17: bodies may be as deep as trees.
func TestDeepBodies(t *testing.T) {
	depth := api.MaxDepth - 6
	passes(t, "", strings.Repeat("-", depth)+"n", strings.Repeat("{ ", depth)+"n"+strings.Repeat(" }", depth), strings.Repeat("fn[]() { ", depth/2)+strings.Repeat(" }; ", depth/2)+"n")
	refusesBlocks(t, api.ErrType, "", strings.Repeat("-", depth)+"@true", strings.Repeat("{ ", depth)+"@true"+strings.Repeat(" }", depth))
}

// P17: a program may be as long as texts.
func TestLongBodies(t *testing.T) {
	block := strings.Repeat("let x = (n, &n); ", 220) + "x.0"
	p := checked(t, inMain("", block))
	if f := p.Fns[p.Main]; len(f.Vars) != 221 || tell(f.Body.Kids[220]) != "Field:int[Var#220.x:(int, &'0 int)]" {
		t.Error(len(f.Vars))
	}
	refusesBlocks(t, api.ErrType, "", strings.Repeat("let x = (n, &n); ", 220)+"@x")
}
