package check

import (
	"fmt"
	"reflect"
	"strings"
	"testing"
)

// P17: numbers, bools, tuples, operators.
func TestSimple(t *testing.T) {
	typed(t, "", "7", "Int#7:int")
	typed(t, "", "0", "Int:int")
	typed(t, "", "true; false; n", "Bool#1:bool", "Bool:bool", "Var.n:int")
	typed(t, "", "(); (n, true); n", "Tuple:()", "Tuple:(int, bool)[Var.n:int Bool#1:bool]", "Var.n:int")
	typed(t, "", "-n", "Un.-:int[Var.n:int]")
	typed(t, "", "!true; n", "Un.!:bool[Bool#1:bool]", "Var.n:int")
	typed(t, "", "1 + 2 * n", "Bin.+:int[Int#1:int Bin.*:int[Int#2:int Var.n:int]]")
	typed(t, "", "1 < n; 1 <= n; 1 > n; 1 >= n; 4 - n / 2 % 3", "Bin.<:bool[Int#1:int Var.n:int]", "Bin.<=:bool[Int#1:int Var.n:int]", "Bin.>:bool[Int#1:int Var.n:int]", "Bin.>=:bool[Int#1:int Var.n:int]", "Bin.-:int[Int#4:int Bin.%:int[Bin./:int[Var.n:int Int#2:int] Int#3:int]]")
	typed(t, "", "1 == n; true != false; n", "Bin.==:bool[Int#1:int Var.n:int]", "Bin.!=:bool[Bool#1:bool Bool:bool]", "Var.n:int")
	typed(t, "", "true && false || n == 1; n", "Or:bool[And:bool[Bool#1:bool Bool:bool] Bin.==:bool[Var.n:int Int#1:int]]", "Var.n:int")
}

// P17: names in sight, and those of two that are the same.
func TestNames(t *testing.T) {
	typed(t, "", "let n = (n, true); let x = n.0; { let x = false; let n = x; n; }; x", "Let#1/1.n:()[Tuple:(int, bool)[Var.n:int Bool#1:bool]]", "Let#2/1.x:()[Field:int[Var#1.n:(int, bool)]]",
		"Block:()[Let#3/1.x:()[Bool:bool] Let#4/1.n:()[Var#3.x:bool] Var#4.n:bool]", "Var#2.x:int")
	typed(t, "fn out() -> bool { true }", "let x = out(); let out = 3; out", "Let#1/1.x:()[Fn#10:bool]", "Let#2/1.out:()[Int#3:int]", "Var#2.out:int")
	// The names of arms and loops are gone behind them.
	typed(t, "", "let x = 1; match (true, 2) { (x, y) => { let n = x; 4 } }; while true { let x = true; } if true { let x = true; } loop { let n = 1; break; } x + n",
		"Bin.+:int[Var#1.x:int Var.n:int]")
	// A value comes ahead of its variable.
	typed(t, "", "let x = { let y = n; y }; x", "Let#2/1.x:()[Block#1:int[Let#1/1.y:()[Var.n:int] Var#1.y:int]]", "Var#2.x:int")
}

// P17: lets, and the variables of a function.
func TestLets(t *testing.T) {
	typed(t, "", "let x: int; let mut y: bool = true; let z: (int, &int) = (1, &n); x", "Let#1.x:()", "Let#2/1.y:()[Bool#1:bool]", "Let#3/1.z:()[Tuple:(int, &'0 int)[Int#1:int Ref:&'0 int[Var.n:int]]]", "Var#1.x:int")
}

// P17: a function's variables keep the lifetimes of its signature, all else has none.
func TestVars(t *testing.T) {
	p := checked(t, inMain("fn f<'a, 'b, T: 'a>(mut x: &'a mut T, y: k::L<'b, int>, z: &'static int) -> &'a mut T { let u = y; let mut v = z; let w: k::L<int> = k::L::Nil; match (v, 1) { (mut a, 1) => { let c: T; }, (ref b, 3) => { }, (ref mut b, _) => { } } x }", "n"))
	f := p.Fns[10]
	if got, want := tellVars(f.Vars), "mut x:&mut'1 T0, y:D6'2<int>, z:&'-1 int, u:D6'0<int>, mut v:&'0 int, w:D6'0<int>, mut a:&'0 int, c:T0, b:&'0 &'0 int, b:&mut'0 &'0 int"; got != want {
		t.Errorf("%s, not %s", got, want)
	}
	kids := f.Body.Kids
	if got, want := tell(kids[0])+tell(kids[1])+tell(kids[len(kids)-1]), "Let#3/1.u:()[Var#1.y:D6'0<int>]Let#4/1.v:()[Var#2.z:&'0 int]Var.x:&mut'0 T0"; got != want {
		t.Errorf("%s, not %s", got, want)
	}
	if got, want := tell(f.Body), ":&mut'0 T0"; !strings.HasPrefix(got, "Block#1"+want) {
		t.Error(got)
	}
}

// P17: parts of tuples and structs, references and what they lead to, places.
func TestPlaces(t *testing.T) {
	const own = "struct P<'a, T> { x: T, y: &'a mut (T, k::G<T>) }"
	typed(t, own, "(n, (true, 3)).1.1", "Field#1:int[Field#1:(bool, int)[Tuple:(int, (bool, int))[Var.n:int Tuple:(bool, int)[Bool#1:bool Int#3:int]]]]")
	typed(t, own, "let p: P<bool>; p.x; p.y; (*p.y).1.h; n", "Field.x:bool[Var#1.p:D7'0<bool>]", "Field#1.y:&mut'0 (bool, D2<bool>)[Var#1.p:D7'0<bool>]",
		"Field#1.h:D0<bool>[Field#1:D2<bool>[Deref:(bool, D2<bool>)[Field#1.y:&mut'0 (bool, D2<bool>)[Var#1.p:D7'0<bool>]]]]", "Var.n:int")
	typed(t, own, "let s: k::S; s.a", "Field.a:int[Var#1.s:D1<>]")
	typed(t, own, "&n; &mut n; &&mut true; *&n", "Ref:&'0 int[Var.n:int]", "Ref#1:&mut'0 int[Var.n:int]", "Ref:&'0 &mut'0 bool[Ref#1:&mut'0 bool[Bool#1:bool]]", "Deref:int[Ref:&'0 int[Var.n:int]]")
	typed(t, own, "let b = boxed(boxed(n)); let r = &mut b; ***r", "Deref:int[Deref:Box<int>[Deref:Box<Box<int>>[Var#2.r:&mut'0 Box<Box<int>>]]]")
	typed(t, own, "let p: P<int>; n = 1; p.x = n; (*p.y).0 = 2; *boxed(n) = 3; *&mut n = 4; n", "Assign:()[Var.n:int Int#1:int]", "Assign:()[Field.x:int[Var#1.p:D7'0<int>] Var.n:int]",
		"Assign:()[Field:int[Deref:(int, D2<int>)[Field#1.y:&mut'0 (int, D2<int>)[Var#1.p:D7'0<int>]]] Int#2:int]", "Assign:()[Deref:int[Lib<int>:Box<int>[Var.n:int]] Int#3:int]", "Assign:()[Deref:int[Ref#1:&mut'0 int[Var.n:int]] Int#4:int]", "Var.n:int")
}

// P17: what is wanted of a tuple, of a reference, of an if, of a match, of a block helps to find types.
func TestWanted(t *testing.T) {
	typed(t, "", "let x: (Option<int>, &Option<bool>, &mut Vec<int>) = (Option::None, &Option::None, &mut vec()); n",
		"Let#1/1.x:()[Tuple:(D0<int>, &'0 D0<bool>, &mut'0 Vec<int>)[Case<int>:D0<int> Ref:&'0 D0<bool>[Case<bool>:D0<bool>] Ref#1:&mut'0 Vec<int>[Lib#2<int>:Vec<int>]]]", "Var.n:int")
	typed(t, "", "let x: Option<int> = if true { Option::None } else { { Option::None } }; n",
		"Let#1/1.x:()[If:D0<int>[Bool#1:bool Block#1:D0<int>[Case<int>:D0<int>] Block#1:D0<int>[Block#1:D0<int>[Case<int>:D0<int>]]]]", "Var.n:int")
	typed(t, "", "let x: Option<int> = match n { 1 => Option::None, _ => k::none() }; n",
		"Let#1/1.x:()[Match:D0<int>[Var.n:int Arm[PInt#1:int Case<int>:D0<int>] Arm[PAny:int Fn#5<int>:D0<int>]]]", "Var.n:int")
	// Where nothing is, the first one that does not go elsewhere tells.
	typed(t, "", "if true { Option::Some(n) } else { Option::None }; if true { panic } else { Option::Some(n) }; n",
		"If:D0<int>[Bool#1:bool Block#1:D0<int>[Case/1<int>:D0<int>[Var.n:int]] Block#1:D0<int>[Case<int>:D0<int>]]", "If:D0<int>[Bool#1:bool Block#1[Panic] Block#1:D0<int>[Case/1<int>:D0<int>[Var.n:int]]]", "Var.n:int")
	typed(t, "", "match n { 1 => panic, 2 => Option::Some(n), 3 => return 1, _ => Option::None }; n",
		"Match:D0<int>[Var.n:int Arm[PInt#1:int Panic] Arm[PInt#2:int Case/1<int>:D0<int>[Var.n:int]] Arm[PInt#3:int Return[Int#1:int]] Arm[PAny:int Case<int>:D0<int>]]", "Var.n:int")
	typed(t, "", "let mut x = Option::Some(n); x = Option::None; n", "Assign:()[Var#1.x:D0<int> Case<int>:D0<int>]", "Var.n:int")
	typed(t, "", "let f = fn[](x: Option<bool>) -> Option<int> { Option::None }; f(Option::None); n", "Invoke:D0<int>[Var#1.f:fn0'0(D0<bool>, D0<int>) Case<bool>:D0<bool>]", "Var.n:int")
}

// P17: loops, ways out, and blocks that go elsewhere.
func TestControl(t *testing.T) {
	typed(t, "", "while n < 3 { n = n + 1; if n == 2 { next } } n", "While:()[Bin.<:bool[Var.n:int Int#3:int] Block#1:()[Assign:()[Var.n:int Bin.+:int[Var.n:int Int#1:int]] If:()[Bin.==:bool[Var.n:int Int#2:int] Block#1[Next]]]]", "Var.n:int")
	typed(t, "", "loop { next; }", "Loop[Block[Next]]")
	typed(t, "", "loop { break; } n", "Loop:()[Block[Break]]", "Var.n:int")
	typed(t, "", "loop { loop { break; } }", "Loop[Block#1:()[Loop:()[Block[Break]]]]")
	typed(t, "", "loop { loop { } break; } n", "Loop:()[Block[Loop[Block:()] Break]]", "Var.n:int")
	// A while's condition is not within it.
	typed(t, "", "loop { while { break } { } } n", "Loop:()[Block#1:()[While:()[Block#1[Break] Block:()]]]", "Var.n:int")
	typed(t, "", "loop { while true { break; } }", "Loop[Block#1:()[While:()[Bool#1:bool Block[Break]]]]")
	typed(t, "", "return n", "Return[Var.n:int]")
	typed(t, "fn f() { return; } fn g() { return (); }", "panic", "Panic")
	typed(t, "", "{ }; { 1; }; { 1 }; { panic }; { panic; 1 }; { let x: int = panic; }; { let x = return 1; 2 }; { panic; }; { let x: int; 4 }",
		"Block:()", "Block:()[Int#1:int]", "Block#1:int[Int#1:int]", "Block#1[Panic]", "Block#1[Panic Int#1:int]", "Block[Let#1/1.x:()[Panic]]", "Block#1[Let#2/1.x:()[Return[Int#1:int]] Int#2:int]", "Block[Panic]", "Block#1:int[Let#3.x:() Int#4:int]")
	typed(t, "", "if true { n } else if false { 2 } else { panic }", "If:int[Bool#1:bool Block#1:int[Var.n:int] If:int[Bool:bool Block#1:int[Int#2:int] Block#1[Panic]]]")
	typed(t, "", "if true { panic } else { return 1 }", "If[Bool#1:bool Block#1[Panic] Block#1[Return[Int#1:int]]]")
	typed(t, "", "if true { panic } else { }; if true { panic; } n", "If:()[Bool#1:bool Block#1[Panic] Block:()]", "If:()[Bool#1:bool Block[Panic]]", "Var.n:int")
}

// P17: a value that goes elsewhere counts as one of the type that is wanted, or as the empty tuple.
func TestNever(t *testing.T) {
	typed(t, "", "let x = panic; let y: bool = panic; x; y; n", "Let#1/1.x:()[Panic]", "Let#2/1.y:()[Panic]", "Var#1.x:()", "Var#2.y:bool", "Var.n:int")
	typed(t, "", "(panic, n); &panic; &mut return 1; n", "Tuple:((), int)[Panic Var.n:int]", "Ref:&'0 ()[Panic]", "Ref#1:&mut'0 ()[Return[Int#1:int]]", "Var.n:int")
	typed(t, "", "let x: (bool, &bool) = (panic, &panic); n", "Let#1/1.x:()[Tuple:(bool, &'0 bool)[Panic Ref:&'0 bool[Panic]]]", "Var.n:int")
	typed(t, "", "-panic; !panic; panic + panic; n == panic; panic && panic; n = panic; if panic { } while panic { } n",
		"Un.-:int[Panic]", "Un.!:bool[Panic]", "Bin.+:int[Panic Panic]", "Bin.==:bool[Var.n:int Panic]", "And:bool[Panic Panic]", "Assign:()[Var.n:int Panic]", "If:()[Panic Block:()]", "While:()[Panic Block:()]", "Var.n:int")
	typed(t, "", "boxed(panic); k::id::<int>(panic); make k::G { g: panic, h: Option::None }; return panic", "Lib<()>:Box<()>[Panic]", "Fn#4<int>:int[Panic]", "Make#2<()>:D2<()>[Init[Panic] Init#1[Case<()>:D0<()>]]", "Return[Panic]")
	typed(t, "", "match panic { () => n }", "Match:int[Panic Arm[PTuple:() Var.n:int]]")
	typed(t, "", "match n { _ => panic }", "Match[Var.n:int Arm[PAny:int Panic]]")
	typed(t, "", "let v: k::Void; match v { }", "Match[Var#1.v:D5<>]")
}

// P17: what is called: functions, those of std, of traits, variants, closures.
func TestCalls(t *testing.T) {
	typed(t, "fn f(x: int, y: &bool) -> (int, bool) { (x, *y) }", "f(n, &true).0", "Field:int[Fn#10:(int, bool)[Var.n:int Ref:&'0 bool[Bool#1:bool]]]")
	typed(t, "", "k::id(n)", "Fn#4<int>:int[Var.n:int]")
	typed(t, "", "k::id::<bool>(true); k::id::<&int>(&n); k::id(&n); n", "Fn#4<bool>:bool[Bool#1:bool]", "Fn#4<&'0 int>:&'0 int[Ref:&'0 int[Var.n:int]]", "Fn#4<&'0 int>:&'0 int[Ref:&'0 int[Var.n:int]]", "Var.n:int")
	typed(t, "", "out(n); let v = vec::<bool>(); push(&mut v, true); len(&v)", "Lib#40:()[Var.n:int]", "Let#1/1.v:()[Lib#2<bool>:Vec<bool>]", "Lib#3<bool>:()[Ref#1:&mut'0 Vec<bool>[Var#1.v:Vec<bool>] Bool#1:bool]", "Lib#5<bool>:int[Ref:&'0 Vec<bool>[Var#1.v:Vec<bool>]]")
	typed(t, "", "let v: Vec<&int>; view(&v, 0, 1); at(&v, 2); n", "Lib#8<&'0 int>:Slice'0<&'0 int>[Ref:&'0 Vec<&'0 int>[Var#1.v:Vec<&'0 int>] Int:int Int#1:int]", "Lib#6<&'0 int>:&'0 &'0 int[Ref:&'0 Vec<&'0 int>[Var#1.v:Vec<&'0 int>] Int#2:int]", "Var.n:int")
	typed(t, "", "T1::t(&n); k::T1::u::<int>(n, 1)", "Method#4<int>:int[Ref:&'0 int[Var.n:int]]", "Method#4/1<int>:int[Var.n:int Int#1:int]")
	typed(t, "fn f<T: T1 + Copy>(x: &T, y: &k::G<T>) -> int { T1::t(x); T1::t(y) }", "n")
	typed(t, "", "E::A; E::B(n); k::E::C(1, true); Option::Some(E::A); Option::None::<int>; Option::Some::<bool>(true); n", "Case#4:D4<>", "Case#4/1:D4<>[Var.n:int]", "Case#4/2:D4<>[Int#1:int Bool#1:bool]", "Case/1<D4<>>:D0<D4<>>[Case#4:D4<>]", "Case<int>:D0<int>", "Case/1<bool>:D0<bool>[Bool#1:bool]", "Var.n:int")
	typed(t, "", "k::L::Cons(&n, boxed(k::L::Nil::<int>)); n", "Case#6/1<int>:D6'0<int>[Ref:&'0 int[Var.n:int] Lib<D6'0<int>>:Box<D6'0<int>>[Case#6<int>:D6'0<int>]]", "Var.n:int")
	typed(t, "", "let f = fn mut[](x: int, y: bool) -> bool { y }; f(n, true); (fn once[]() { })(); n", "Invoke#1:bool[Var#1.f:fn1'0(int, bool, bool) Var.n:int Bool#1:bool]", "Invoke#2:()[Closure#12/2:fn2'0(())]", "Var.n:int")
	typed(t, "", "let f = (fn[]() -> int { 1 }, 2); f.0()", "Invoke:int[Field:fn0'0(int)[Var#1.f:(fn0'0(int), int)]]")
	// A name in sight is called ahead of a function of that name.
	typed(t, "fn f() -> bool { true }", "f(); let f = fn[]() -> int { 1 }; f()", "Fn#10:bool", "Let#1/1.f:()[Closure#12:fn0'0(int)]", "Invoke:int[Var#1.f:fn0'0(int)]")
}

// P17: structs are made of their parts, in whatever order.
func TestMakes(t *testing.T) {
	const own = "struct P<'a, T, U> { x: T, y: &'a U, z: (T, U) } struct Z { }"
	typed(t, own, "make Z { }; make P { y: &n, x: true, z: (false, 3) }; make P::<bool, int> { x: true, z: (false, 3), y: &n }; make k::G { h: Option::Some(n), g: 2 }; n",
		"Make#8:D8<>", "Make#7<bool, int>:D7'0<bool, int>[Init#1[Ref:&'0 int[Var.n:int]] Init[Bool#1:bool] Init#2[Tuple:(bool, int)[Bool:bool Int#3:int]]]",
		"Make#7<bool, int>:D7'0<bool, int>[Init[Bool#1:bool] Init#2[Tuple:(bool, int)[Bool:bool Int#3:int]] Init#1[Ref:&'0 int[Var.n:int]]]",
		"Make#2<int>:D2<int>[Init#1[Case/1<int>:D0<int>[Var.n:int]] Init[Int#2:int]]", "Var.n:int")
	typed(t, own, "let g: k::G<Option<int> > = make k::G { g: Option::None, h: Option::None }; n", "Let#1/1.g:()[Make#2<D0<int>>:D2<D0<int>>[Init[Case<int>:D0<int>] Init#1[Case<D0<int>>:D0<D0<int>>]]]", "Var.n:int")
}

// P17: closures and threads, and their functions.
func TestClosures(t *testing.T) {
	typed(t, "", "let f = fn[n](x: int) -> int { x + n }; f(1)", "Let#1/1.f:()[Closure#11:fn0'0(int, int)[Capture:int[Var.n:int]]]", "Invoke:int[Var#1.f:fn0'0(int, int) Int#1:int]")
	typed(t, "", "let mut b = (n, true); let c = false; let h = spawn[&b, n, &mut c] -> int { *c = (*b).1; n }; n",
		"Let#3/1.h:()[Spawn#11/3:Handle<int>[Capture#1:&'0 (int, bool)[Var#1.b:(int, bool)] Capture:int[Var.n:int] Capture#2:&mut'0 bool[Var#2.c:bool]]]", "Var.n:int")
	typed(t, "", "fn once[]() { }; spawn[] { }; n", "Closure#11/2:fn2'0(())", "Spawn#12/3:Handle<()>", "Var.n:int")
}

// toldFns holds the functions of closures against what they are told as, where a place is written as what stands there for the first time, and their bodies behind that.
func toldFns(t *testing.T, text string, from int, want ...string) {
	t.Helper()
	p := checked(t, text)
	if len(p.Fns) != from+len(want) {
		t.Fatalf("%q: %d functions", text, len(p.Fns))
	}
	for i, told := range want {
		ahead, rest, _ := strings.Cut(told, "`")
		piece, rest, _ := strings.Cut(rest, "`")
		told = fmt.Sprint(ahead, strings.Index(text, piece), rest)
		if got := tellFn(p.Fns[from+i]) + " " + tell(p.Fns[from+i].Body); got != told {
			t.Errorf("%q:\n%s\nnot\n%s", text, got, told)
		}
	}
}

// P17: the functions of closures, in the order in which their bodies end.
func TestClosureFns(t *testing.T) {
	text := inMain("", "let b = (&n, boxed(n)); let f = fn mut[&b, n](mut x: int) -> bool { let y = x; let g = fn[&mut n, b]() -> int { *n + *(*b).0 }; return y == g(); }; let h = spawn[n] { loop { break; } }; fn once[f](f2: bool) { f(1); f2; }; n")
	toldFns(t, text, 11,
		"\"\" mod1 @`fn[&mut n` pub false impl -1 kind 0 types [] lives 4 outs [] gens [] (&'1 (&mut'2 int, &'3 (&'4 int, Box<int>)))->int env (&mut'0 int, &'0 (&'0 int, Box<int>)) vars (mut :&'1 (&mut'2 int, &'3 (&'4 int, Box<int>)))"+
			" Block#1:int[Bin.+:int[Deref:int[Cap.n:&mut'0 int] Deref:int[Field:&'0 int[Deref:(&'0 int, Box<int>)[Cap#1.b:&'0 (&'0 int, Box<int>)]]]]]",
		"\"\" mod1 @`fn mut[` pub false impl -1 kind 1 types [] lives 3 outs [] gens [] (&mut'1 (&'2 (&'3 int, Box<int>), int), int)->bool env (&'0 (&'0 int, Box<int>), int) vars (mut :&mut'1 (&'2 (&'3 int, Box<int>), int), mut x:int, y:int, g:fn0'0(int))"+
			" Block[Let#2/1.y:()[Var#1.x:int] Let#3/1.g:()[Closure#11:fn0'0(int)[Capture#2:&mut'0 int[Cap#1.n:int] Capture:&'0 (&'0 int, Box<int>)[Cap.b:&'0 (&'0 int, Box<int>)]]] Return[Bin.==:bool[Var#2.y:int Invoke:int[Var#3.g:fn0'0(int)]]]]",
		"\"\" mod1 @`spawn[` pub false impl -1 kind 3 types [] lives 0 outs [] gens [] ((int))->() env (int) vars (mut :(int)) Block#1:()[Loop:()[Block[Break]]]",
		"\"\" mod1 @`fn once[f]` pub false impl -1 kind 2 types [] lives 1 outs [] gens [] ((fn1'1(int, bool)), bool)->() env (fn1'0(int, bool)) vars (mut :(fn1'1(int, bool)), f2:bool) Block:()[Invoke#1:bool[Cap.f:fn1'0(int, bool) Int#1:int] Var#1.f2:bool]")
	// A closure has the type parameters of the function around it, and Self, without lifetimes.
	text = inMain("struct P<'a, T> { p: &'a T } impl<'a, 'b, U: Copy + Send, V> T1 for (&'a V, P<'b, U>) { fn t(self: &Self) -> int { let f = fn[self](x: Self, y: V) -> U { *(*self).1.p }; 1 } fn u(self: Self, x: Self) -> Self { x } } "+
		"pub fn g<'a, T: T1 + 'a + 'static + Copy + 'a, U: 'static + 'static>(x: &'a T, u: U) { let f = fn once[x, u]() -> (T, int) { let h = fn mut[u]() -> (U, Option<T>) { (u, Option::None) }; (*x, k::T1::t(x)) }; }", "n")
	const gens = "types [T U] lives 1 outs [] gens [{[4 0] [-1]} {[] [-1 -1]}] "
	const self = "(&'0 T1, D7'0<T0>)"
	toldFns(t, text, 14,
		"\"\" mod1 @`fn[self]` pub false impl 2 kind 0 types [U V] lives 4 outs [] gens [{[0 1] []} {[] []}] (&'1 (&'2 (&'3 T1, D7'4<T0>)), "+self+", T1)->T0 env (&'0 "+self+") vars (mut :&'1 (&'2 (&'3 T1, D7'4<T0>)), x:"+self+", y:T1)"+
			" Block#1:T0[Deref:T0[Field.p:&'0 T0[Field#1:D7'0<T0>[Deref:"+self+"[Cap.self:&'0 "+self+"]]]]]",
		"\"\" mod1 @`fn mut[u]` pub false impl -1 kind 1 "+gens+"(&mut'1 (T1))->(T1, D0<T0>) env (T1) vars (mut :&mut'1 (T1)) Block#1:(T1, D0<T0>)[Tuple:(T1, D0<T0>)[Cap.u:T1 Case<T0>:D0<T0>]]",
		"\"\" mod1 @`fn once[x, u]` pub false impl -1 kind 2 "+gens+"((&'1 T0, T1))->(T0, int) env (&'0 T0, T1) vars (mut :(&'1 T0, T1), h:fn1'0((T1, D0<T0>)))"+
			" Block#1:(T0, int)[Let#1/1.h:()[Closure#15/1:fn1'0((T1, D0<T0>))[Capture:T1[Cap#1.u:T1]]] Tuple:(T0, int)[Deref:T0[Cap.x:&'0 T0] Method#4<T0>:int[Cap.x:&'0 T0]]]")
}

// P17: patterns, and the variables that they make.
func TestPatterns(t *testing.T) {
	typed(t, "", "match (n, true) { (0, true) => 1, (-3, false) => 2, (x, _) => x }", "Match:int[Tuple:(int, bool)[Var.n:int Bool#1:bool] Arm[PTuple:(int, bool)[PInt:int PBool#1:bool] Int#1:int] Arm[PTuple:(int, bool)[PInt#-3:int PBool:bool] Int#2:int] Arm[PTuple:(int, bool)[PBind#1.x:int PAny:bool] Var#1.x:int]]")
	typed(t, "", "match k::E::C(n, true) { E::A => 1, k::E::B(mut x) => x, E::C(ref x, ref mut y) => *x }",
		"Match:int[Case#4/2:D4<>[Var.n:int Bool#1:bool] Arm[PCase#4.E::A:D4<> Int#1:int] Arm[PCase#4/1.k::E::B:D4<>[PBind#1.x:int] Var#1.x:int] Arm[PCase#4/2.E::C:D4<>[PBind#2/1.x:int PBind#3/2.y:bool] Deref:int[Var#2.x:&'0 int]]]")
	typed(t, "", "let l: k::L<Option<bool> >; match l { k::L::Cons(ref r, b) => { match **r { Option::Some(z) => n, Option::None => 2 } }, k::L::Nil => 0 }",
		"Match:int[Var#1.l:D6'0<D0<bool>> Arm[PCase#6/1.k::L::Cons:D6'0<D0<bool>>[PBind#2/1.r:&'0 D0<bool> PBind#3.b:Box<D6'0<D0<bool>>>] Block#1:int[Match:int[Deref:D0<bool>[Deref:&'0 D0<bool>[Var#2.r:&'0 &'0 D0<bool>]] Arm[PCase/1.Option::Some:D0<bool>[PBind#4.z:bool] Var.n:int] Arm[PCase.Option::None:D0<bool> Int#2:int]]]] Arm[PCase#6.k::L::Nil:D6'0<D0<bool>> Int:int]]")
	typed(t, "", "match n { n => n }", "Match:int[Var.n:int Arm[PBind#1.n:int Var#1.n:int]]")
}

// P17: types are found from left to right.
func TestFilling(t *testing.T) {
	typed(t, "fn f<T, U>(x: &T, y: (T, U), z: U) -> Option<U> { Option::None }", "f(&n, (n, true), false); f::<int, Option<int> >(&n, (1, Option::None), Option::None); n",
		"Fn#10<int, bool>:D0<bool>[Ref:&'0 int[Var.n:int] Tuple:(int, bool)[Var.n:int Bool#1:bool] Bool:bool]",
		"Fn#10<int, D0<int>>:D0<D0<int>>[Ref:&'0 int[Var.n:int] Tuple:(int, D0<int>)[Int#1:int Case<int>:D0<int>] Case<int>:D0<int>]", "Var.n:int")
	typed(t, "fn f<T>(x: T, y: T) -> T { y }", "f(Option::Some(n), Option::None); let x: Option<bool> = f(Option::None, Option::None); n",
		"Fn#10<D0<int>>:D0<int>[Case/1<int>:D0<int>[Var.n:int] Case<int>:D0<int>]", "Let#1/1.x:()[Fn#10<D0<bool>>:D0<bool>[Case<bool>:D0<bool> Case<bool>:D0<bool>]]", "Var.n:int")
	typed(t, "fn f<T>(x: Option<T>, y: int) -> int { y }", "f(Option::Some(true), n)", "Fn#10<bool>:int[Case/1<bool>:D0<bool>[Bool#1:bool] Var.n:int]")
}

// P2: neither is the given program changed, nor hangs the answer on anything else, nor shares it memory with what is given or with itself.
func TestCheckAnswersAlike(t *testing.T) {
	text := inMain("impl<'a, T: Copy> T1 for &'a T { fn t(self: &Self) -> int { let x: Self = *self; let f = fn[x](y: Self) -> int { 1 }; f(x) } fn u(self: Self, x: Self) -> Self { self } }", "let f = fn[&n](x: (int, bool)) -> int { let y = *n; y }; let z = make k::G { g: f, h: Option::None }; match (z.h, 1) { (Option::Some(g), _) => 1, (_, x) => x }")
	given := items(t, text)
	first, _ := Check(given)
	second, _ := Check(given)
	if !reflect.DeepEqual(first, second) || !reflect.DeepEqual(given, items(t, text)) {
		t.Error("changed")
	}
	seen := map[uintptr]reflect.Value{}
	for _, v := range []any{given, first, second} {
		if list, twice := noteLists(reflect.ValueOf(v), seen); twice {
			t.Error(list)
		}
	}
}

// noteLists notes the lists in a value by where they begin, and answers one that has been noted already.
func noteLists(v reflect.Value, seen map[uintptr]reflect.Value) (reflect.Value, bool) {
	switch v.Kind() {
	case reflect.Struct:
		for i := range v.NumField() {
			if list, twice := noteLists(v.Field(i), seen); twice {
				return list, true
			}
		}
	case reflect.Slice:
		if v.Len() > 0 && seen[v.Pointer()].IsValid() {
			return v, true
		}
		if v.Len() > 0 {
			seen[v.Pointer()] = v
		}
		for i := range v.Len() {
			if list, twice := noteLists(v.Index(i), seen); twice {
				return list, true
			}
		}
	}
	return v, false
}
