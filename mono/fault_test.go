package mono

import (
	"fmt"
	"strings"
	"testing"

	"holdfast/api"
)

// boxes is a type with so many parts: a Box of a Box and so on of an int.
func boxes(parts int) string {
	return strings.Repeat("Box<", parts-1) + "int" + strings.Repeat(">", parts-1)
}

// marked puts a @ in a text ahead of what it names, where a number is above a limit.
func marked(text, place string, over bool) string {
	if !over {
		return text
	}
	return strings.Replace(text, place, "@"+place, 1)
}

// P27: a type with more than MaxParts parts is too much, at the function that is being made.
func TestBigTypes(t *testing.T) {
	const k = "fn k<T>() -> T { panic } trait A { fn a(self: &Self); } impl<T> A for Box<T> { fn a(self: &Box<T>) { } } impl A for int { fn a(self: &int) { } } struct S<T> { s: T } "
	for parts := 57; parts <= 60; parts++ {
		// What a function asks for must have at most MaxParts parts, with its own type in the place of T.
		for _, c := range []struct {
			body string
			more int // parts beside those of T
		}{
			{"let v: T;", 0},                                         // Vars
			{"let v: Box<T>;", 1},                                    // Vars, and so on
			{"let v: (int, Box<T>);", 3},                             // more parts at once
			{"let v: (Box<int>, T);", 3},                             //
			{"let v: &mut T;", 1},                                    //
			{"let v: fn(int) -> T;", 2},                              //
			{"g::<T>();", 0},                                         // types of ICall
			{"g::<Box<T>>();", 1},                                    //
			{"g::<(T, int)>();", 2},                                  //
			{"vec::<T>();", 1},                                       // what is given
			{"A::a(&boxed(k::<T>()));", 2},                           // the reference that the method is given
			{"make S { s: k::<T>() };", 1},                           //
			{"Option::None::<Box<T>>;", 2},                           //
			{"let f = fn[]() -> T { panic };", 1},                    //
			{"let f = fn[]() -> T { panic }; f();", 2},               // the reference by which it is called
			{"let f = fn once[]() -> T { panic }; f();", 1},          //
			{"let f = fn[](x: T) -> int { 1 };", 2},                  //
			{"match k::<T>() { ref x => { } }", 1},                   //
			{"match k::<T>() { x => { } }", 0},                       //
			{"if false { let v: Box<T>; }", 1},                       // though nothing leads there
			{"let r = spawn[] -> int { let v: T; 1 }; join(r);", -1}, // it is of another function
		} {
			text := k + "fn g<T>() { } fn f<T: A>() { " + c.body + " } fn main(n: int) -> int { f::<" + boxes(parts) + ">(); n }"
			refuses(t, marked(text, "fn f<T: A>", parts+c.more > api.MaxParts))
		}
	}
	// Where it is too much in a function that is called, it is refused there.
	refuses(t, k+"@fn g<T>() { let v: Box<T>; } fn f<T>() { g::<T>(); } fn main(n: int) -> int { f::<"+boxes(60)+">(); n }")
	refuses(t, k+"fn g<T>() { let v: Box<T>; } fn f<T>() { g::<T>(); } fn main(n: int) -> int { f::<"+boxes(59)+">(); n }")
	// What the function of a closure or a thread has captured stands in a tuple, and of that there is a reference.
	for parts := 25; parts <= 30; parts++ {
		for _, c := range []struct {
			head, captures, end string
			more                int
		}{{"fn", "x, y", "() -> int", 2}, {"fn mut", "x, y", "() -> int", 2}, {"fn once", "x, y", "() -> int", 1}, {"spawn", "x, y", " -> int", 1}, {"fn", "&x, y", "() -> int", 3}, {"fn once", "&x, &mut y", "() -> int", 3}} {
			text := "fn f<T: Send>(x: T, mut y: T) { @" + c.head + "[" + c.captures + "]" + c.end + " { 1 }; } fn k<T>() -> T { panic } fn main(n: int) -> int { f::<" + boxes(parts) + ">(k(), k()); n }"
			if 2*parts+c.more <= api.MaxParts {
				text = strings.Replace(text, "@", "", 1)
			}
			refuses(t, text)
		}
	}
	// A Drop has a reference to what it drops.
	for parts := 57; parts <= 59; parts++ {
		text := "struct D<T> { d: T } impl<T> Drop for D<T> { fn drop(self: &mut D<T>) { } } fn k<T>() -> T { panic } fn main(n: int) -> int { make D { d: k::<" + boxes(parts) + ">() }; n }"
		refuses(t, marked(text, "fn drop", parts+2 > api.MaxParts))
	}
	// There need be no type parameter, but the function must be needed.
	refuses(t, "fn k<T>() -> T { panic } @fn main(n: int) -> int { match k::<"+boxes(60)+">() { ref x => n } }")
	refuses(t, "fn k<T>() -> T { panic } fn main(n: int) -> int { match k::<"+boxes(59)+">() { ref x => n } }")
	refuses(t, "fn k<T>() -> T { panic } fn f() { match k::<"+boxes(60)+">() { ref x => { } } } fn main(n: int) -> int { n }")
	refuses(t, "fn f(x: &"+boxes(60)+") { } fn main(n: int) -> int { n }")
	refuses(t, "fn k<T>() -> T { panic } fn f<T>() { f::<(T, T)>(); } fn main(n: int) -> int { n }")
}

// P27: types that grow without end are refused once they are too big, at the function that makes them so.
func TestGrowingTypes(t *testing.T) {
	refuses(t, "@fn grow<T>(x: T) { grow((x, 1)); } fn main(n: int) -> int { grow(n); n }")
	refuses(t, "@fn f<T>() { g::<(T, T)>(); } fn g<T>() { f::<T>(); } fn main(n: int) -> int { f::<int>(); n }")
	refuses(t, "fn f<T>() { g::<T>(); } @fn g<T>() { f::<(T, T)>(); } fn main(n: int) -> int { f::<int>(); n }")
	refuses(t, "fn f<T>() { let c = @fn[]() -> int { f::<(T, T)>(); 1 }; } fn main(n: int) -> int { f::<int>(); n }")
	refuses(t, "trait A { fn a(self: Self); } impl<T> A for Box<T> { @fn a(self: Box<T>) { A::a(boxed(self)); } } fn main(n: int) -> int { A::a(boxed(n)); n }")
	refuses(t, "struct D<T> { d: T } impl<T> Drop for D<T> { @fn drop(self: &mut D<T>) { make D { d: k::<(T, T)>() }; } } fn k<T>() -> T { panic } fn main(n: int) -> int { make D { d: 1 }; n }")
	// Of three type parameters with thirty kinds of types there would be many instances, of few parts.
	refuses(t, "@fn f<A, B, C>() { f::<B, C, A>(); f::<Box<A>, B, C>(); } fn main(n: int) -> int { f::<int, int, int>(); n }")
}

// many is a program with so many functions that main calls, and what else it says.
func many(calls int, items, body string) string {
	text := items
	for n := range calls {
		text += fmt.Sprintf("fn f%d() { } ", n)
	}
	text += "@fn main(n: int) -> int { "
	for n := range calls {
		text += fmt.Sprintf("f%d(); ", n)
	}
	return text + body + "n }"
}

// P27: at most MaxInstances instances, main's among them; one more is too much at the function that needs it, whatever it is needed for.
func TestManyInstances(t *testing.T) {
	unmarked := func(text string) string { return strings.Replace(text, "@", "", 1) }
	refuses(t, unmarked(many(98, "", "")))
	refuses(t, unmarked(many(99, "", "")))
	refuses(t, many(100, "", ""))
	if q := instances(t, unmarked(many(99, "", ""))); len(q.Fns) != api.MaxInstances {
		t.Error(len(q.Fns))
	}
	const items = "struct D { d: int } impl Drop for D { fn drop(self: &mut D) { } } trait A { fn a(self: Self); } impl A for int { fn a(self: int) { } } fn id<T>(x: T) -> T { x } "
	for _, body := range []string{"let c = fn[]() -> int { 1 }; ", "let h = spawn[] -> int { 1 }; ", "A::a(1); ", "make D { d: 1 }; ", "id(true); "} {
		refuses(t, unmarked(many(98, items, body)))
		refuses(t, many(99, items, body))
	}
	// What is there already counts no more.
	refuses(t, unmarked(many(99, "", "main(1); f3(); f98(); ")))
	refuses(t, unmarked(many(96, items, "id(true); A::a(1); make D { d: 1 }; id(false); A::a(n); make D { d: 2 }; f95(); ")))
	// At another function than main.
	refuses(t, strings.Replace(unmarked(many(98, "fn g() { } fn f() { g(); } ", "f(); ")), "fn f()", "@fn f()", 1))
	refuses(t, unmarked(many(97, "fn g() { } fn f() { g(); } ", "f(); ")))
	refuses(t, strings.Replace(unmarked(many(97, "fn g() { } fn f<T>() { g(); let c = fn[]() -> int { id::<T>(); 1 }; } fn id<T>() { } ", "f::<int>(); ")), "fn f", "@fn f", 1))
	refuses(t, strings.Replace(unmarked(many(96, "fn g() { } fn f<T>() { g(); let c = fn[]() -> int { id::<T>(); 1 }; } fn id<T>() { } ", "f::<int>(); ")), "fn[]", "@fn[]", 1))
	refuses(t, unmarked(many(95, "fn g() { } fn f<T>() { g(); let c = fn[]() -> int { id::<T>(); 1 }; } fn id<T>() { } ", "f::<int>(); ")))
}

// twice is a trait that asks, of what a Box leads to, for two traits: so a Box of so many Boxes leads to twice as many questions, and one.
const twice = "trait A { fn a(self: &Self) -> int; } trait B { fn b(self: &Self) -> int; } impl A for int { fn a(self: &int) -> int { 1 } } impl B for int { fn b(self: &int) -> int { 1 } } impl<T: A + B> A for Box<T> { fn a(self: &Box<T>) -> int { 1 } } impl<T: A + B> B for Box<T> { fn b(self: &Box<T>) -> int { 1 } } "

// P27: a method for which there is no impl, since that leads to too many questions: at the function that is being made.
func TestNoImpl(t *testing.T) {
	for boxed := 26; boxed <= 29; boxed++ {
		// With T a Box in boxed Boxes, that leads to 2*boxed+1 questions.
		for wraps := range 4 {
			value := strings.Repeat("boxed(", wraps) + "x" + strings.Repeat(")", wraps)
			text := twice + "fn f<T: A + B>(x: T) { A::a(&" + value + "); } fn k<T>() -> T { panic } fn main(n: int) -> int { f::<" + boxes(boxed+1) + ">(k()); n }"
			refuses(t, marked(text, "fn f<T", 2*(boxed+wraps)+1 > api.MaxAsk))
			text = twice + "fn f<T: A + B>(x: T) { let c = fn once[x]() -> int { B::b(&" + value + ") }; } fn k<T>() -> T { panic } fn main(n: int) -> int { f::<" + boxes(boxed+1) + ">(k()); n }"
			refuses(t, marked(text, "fn once[x]", 2*(boxed+wraps)+1 > api.MaxAsk))
		}
	}
	// Nothing leads there, but the instruction is there; in a function that is not needed it is none of an instance.
	refuses(t, twice+"@fn f<T: A + B>(x: T) { if false { A::a(&boxed(x)); } } fn k<T>() -> T { panic } fn main(n: int) -> int { f::<"+boxes(30)+">(k()); n }")
	refuses(t, twice+"fn f<T: A + B>(x: T) { A::a(&boxed(x)); } fn k<T>() -> T { panic } fn main(n: int) -> int { n }")
	// What a function asks of its types has been asked where it is called: here no more.
	refuses(t, twice+"fn f<T: A + B>(x: T) { g(boxed(x)); } fn g<T: A + B>(x: T) { } fn k<T>() -> T { panic } fn main(n: int) -> int { f::<"+boxes(30)+">(k()); n }")
}

// chain is so many structs, one within the other, with D1 around all of them: whether it is Send is as many questions and one more.
func chain(many int) string {
	text := ""
	for n := 1; n < many; n++ {
		text += fmt.Sprintf("struct D%d { a: D%d } ", n, n+1)
	}
	return text + fmt.Sprintf("struct D%d { a: int } fn k<T>() -> T { panic } ", many)
}

// P27: an instance that is not well-formed: what a thread is given, or gives, leads to too many questions.
func TestNotWell(t *testing.T) {
	for many := 56; many <= 59; many++ {
		for _, c := range []struct {
			items, place string
			more         int // questions beside those of T
		}{
			{"fn f<T: Send>(x: T) { spawn[x] -> int { 1 }; }", "fn f", 0},
			{"fn f<T: Send>(x: T) { let v = boxed(x); spawn[v] -> int { 1 }; }", "fn f", 1},
			{"fn f<T: Send>(x: T) { let v = (1, boxed(boxed(x))); spawn[v] -> int { 1 }; }", "fn f", 3},
			{"fn f<T: Send>(x: T) { spawn[] -> Box<T> { panic }; }", "fn f", 1},
			{"fn f<T: Send>(x: T) { spawn[] -> (T, Vec<T>) { panic }; }", "fn f", 2},
			{"fn f<T: Send>(x: T) { let c = fn once[x]() -> int { spawn[] -> Box<T> { panic }; 1 }; }", "fn once[x]", 1},
			{"fn f<T: Send>(x: T) { let c = fn once[x]() -> int { let v = boxed(x); spawn[v] -> int { 1 }; 1 }; }", "fn once[x]", 1},
			{"trait A { fn a(self: Self); } impl<T> A for Box<T> { fn a(self: Box<T>) { } } fn f<T: Send>(x: T) { A::a(boxed(x)); let v = vec::<T>(); spawn[v] -> int { 1 }; }", "fn f", 1},
			{"fn f<T: Send>(x: T) { if false { spawn[] -> Option<T> { panic }; } }", "fn f", 1},
		} {
			text := chain(many) + c.items + " fn main(n: int) -> int { f(k::<D1>()); n }"
			refuses(t, marked(text, c.place, many+1+c.more > api.MaxAsk))
		}
	}
}

// P27: the same in a method, whose impl asks for as much as it may.
func TestNotWellMethod(t *testing.T) {
	const items = "trait A { fn a(self: Self); } impl<T: Send> A for Box<T> { fn a(self: Box<T>) { let v = boxed(self); spawn[v] -> int { 1 }; } } fn f<T: Send>(x: T) { A::a(boxed(x)); } fn main(n: int) -> int { f(k::<D1>()); n }"
	refuses(t, chain(57)+items)
	refuses(t, chain(58)+strings.Replace(items, "fn a(self: Box", "@fn a(self: Box", 1))
	refuses(t, chain(59)+strings.Replace(items, "fn f<", "@fn f<", 1))
}

// P3, P27: of several faults the first one, in the order in which instances are made; what is not well-formed comes behind all of these.
func TestFirstFault(t *testing.T) {
	const big = "let v: Box<T>; "
	k := chain(59)
	sixty := boxes(60)
	// f is made ahead of g, since it comes up first.
	refuses(t, "@fn f<T>() { "+big+"} fn g<T>() { "+big+"} fn main(n: int) -> int { f::<"+sixty+">(); g::<"+sixty+">(); n }")
	refuses(t, "fn f<T>() { "+big+"} @fn g<T>() { "+big+"} fn main(n: int) -> int { g::<"+sixty+">(); f::<"+sixty+">(); n }")
	// What comes up in f is made behind g.
	refuses(t, "fn h<T>() { "+big+"} fn f<T>() { h::<T>(); } @fn g<T>() { "+big+"} fn main(n: int) -> int { f::<"+sixty+">(); g::<"+sixty+">(); n }")
	// Too many instances in main come ahead of what is made later.
	refuses(t, many(99, "fn f<T>() { "+big+"} ", "f::<"+sixty+">(); "))
	refuses(t, strings.Replace(strings.Replace(many(98, "fn f<T>() { "+big+"} ", "f::<"+sixty+">(); "), "@", "", 1), "fn f<", "@fn f<", 1))
	// No impl in f, a big type in g.
	refuses(t, twice+"@fn f<T: A + B>(x: T) { A::a(&boxed(x)); } fn g<T>() { "+big+"} fn k<T>() -> T { panic } fn main(n: int) -> int { f::<"+boxes(30)+">(k()); g::<"+sixty+">(); n }")
	refuses(t, twice+"fn f<T: A + B>(x: T) { A::a(&boxed(x)); } @fn g<T>() { "+big+"} fn k<T>() -> T { panic } fn main(n: int) -> int { g::<"+sixty+">(); f::<"+boxes(30)+">(k()); n }")
	// An instance that is not well-formed counts once all others are made.
	const thread = "fn t<T: Send>(x: T) { let v = boxed(x); spawn[v] -> int { 1 }; } fn u<T: Send>() { spawn[] -> Box<T> { panic }; } "
	refuses(t, k+strings.Replace(thread, "fn t", "@fn t", 1)+"fn main(n: int) -> int { t(k::<D1>()); n }")
	refuses(t, k+thread+"@fn g<T>() { "+big+"} fn main(n: int) -> int { t(k::<D1>()); g::<"+sixty+">(); n }")
	refuses(t, k+thread+"@fn g<T>() { g::<(T, T)>(); } fn main(n: int) -> int { t(k::<D1>()); g::<int>(); n }")
	// Of two such the one with the lesser number.
	refuses(t, k+strings.Replace(thread, "fn t", "@fn t", 1)+"fn main(n: int) -> int { t(k::<D1>()); u::<D1>(); n }")
	refuses(t, k+strings.Replace(thread, "fn u", "@fn u", 1)+"fn main(n: int) -> int { u::<D1>(); t(k::<D1>()); n }")
	// The instance with other types is well-formed.
	refuses(t, k+strings.Replace(thread, "fn t", "@fn t", 1)+"fn main(n: int) -> int { t(k::<D9>()); t(k::<D1>()); u::<D1>(); n }")
	refuses(t, k+thread+"fn main(n: int) -> int { t(k::<D9>()); t(k::<D2>()); u::<D2>(); n }")
}
