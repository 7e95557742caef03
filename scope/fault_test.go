package scope

import (
	"reflect"
	"strings"
	"testing"

	"holdfast/api"
)

// checkFaults holds the faults of texts against their places: a `@`, which is taken out first, stands ahead of them.
func checkFaults(t *testing.T, kind api.Errno, ahead, behind string, texts ...string) {
	t.Helper()
	for _, marked := range texts {
		marked = ahead + marked + behind
		good, rest, found := strings.Cut(marked, "@")
		if !found || strings.Contains(rest, "@") {
			t.Fatalf("%q: one place has to be marked", marked)
		}
		want := api.Fault{Kind: kind, At: len(good)}
		p, fault := Items(tree(t, good+rest))
		if fault != want || !reflect.DeepEqual(p, api.Program{}) {
			t.Errorf("%q: %v, not %v", marked, fault, want)
		}
	}
}

// checkPasses looks whether texts have programs.
func checkPasses(t *testing.T, ahead, behind string, texts ...string) {
	t.Helper()
	for _, text := range texts {
		text = ahead + text + behind
		if _, fault := Items(tree(t, text)); fault != (api.Fault{}) {
			t.Errorf("%q: %v", text, fault)
		}
	}
}

// ahead and behind are what stands around the items of a module.
const ahead, behind = "mod m { ", " }" + mainMod

// P11, step 1: names of modules and of items.
func TestNamesTwice(t *testing.T) {
	checkFaults(t, api.ErrTwice, "", mainMod,
		"mod m { } @mod m { }", "mod m { } mod k { } @mod m { }", "@mod std { }", "mod m { } @mod std { } mod m { }",
		"mod m { } @mod m { struct S { } struct S { } }", "mod m { struct S { } @struct S { } } mod m { }", "mod m { fn f() { } fn g() { } @pub fn f() { } }")
	checkFaults(t, api.ErrTwice, mainMod, "", " @mod main { }")
	checkFaults(t, api.ErrTwice, ahead, behind,
		"struct S { } @struct S { }", "struct S { } @pub copy struct S { }", "enum S { } @struct S { }", "trait S { } @enum S { }", "fn S() { } @pub trait S { }", "struct S { } @fn S() { }", "fn f() { } @fn f() { }", "trait A { } @trait A { }",
		"fn f() { } trait A { } impl A for int { } @fn A() { }")
	checkPasses(t, "", mainMod, "mod m { struct m { } } mod k { struct m { } fn k() { } }", "mod m { struct Box { } fn Copy() { } trait out { } enum Option { } fn Self() { } }", "mod m { trait A { } impl A for int { } impl A for bool { } }", "mod Option { } mod Box { }")
}

// P11, step 2: what a module uses.
func TestUseFaults(t *testing.T) {
	const others = " mod k { pub struct S { } fn f() { } pub fn g() { } } mod j { use k::S; pub fn h() { } pub fn g() { } }" + mainMod
	checkFaults(t, api.ErrName, "mod m { ", others, "@use q::S; }", "@use k::T; }", "@use j::S; }", "use k::S; @use k::x; }", "@use m::S; }", "@use std::Box; }", "@use k::Box; }", "@use Option::Some; }", "@use k::X; enum k { X } }", "@use q::q; pub struct q { } }")
	checkFaults(t, api.ErrPrivate, "mod m { ", others, "@use k::f; }", "use k::S; @use k::f; fn f() { } }", "@use main::main; }")
	checkFaults(t, api.ErrTwice, "mod m { ", others, "use k::S; @use k::S; }", "use k::g; use k::S; @use j::g; }", "@use k::S; fn S() { } }", "@use m::S; struct S { } }", "@use m::S; pub struct S { } }", "use k::g; @use j::g; }")
	checkPasses(t, "mod m { ", others, "use k::S; use k::g; use j::h; }", "use k::S; fn g() { } struct k { } }", "use m2::Box; } mod m2 { pub trait Box { } }", "use m2::m; } mod m2 { pub fn m() { } }")
	// Names come ahead of uses, and uses ahead of all else.
	checkFaults(t, api.ErrTwice, "mod m { ", others, "use q::x; fn f() { } @fn f() { } }", "use q::x; } mod j2 { } @mod j2 { }")
	checkFaults(t, api.ErrName, "mod m { ", others, "struct S { x: T } } mod m2 { @use q::x; }")
}

// P11, step 3: the parameters, variants and parts of data types.
func TestDataFaults(t *testing.T) {
	checkFaults(t, api.ErrTwice, ahead, behind,
		"struct S<'a, @'a> { }", "struct S<'a, 'b, @'a> { }", "struct S<@'static> { }", "enum S<'a, @'static> { }", "struct S<T, @T> { }", "enum E<T, U, @T> { A(T) }", "struct S<'T, T, @T> { }",
		"struct S { x: int, @x: int }", "struct S { x: int, y: bool, @pub x: bool }", "struct S { pub x: int, @x: Q }", "enum E { A, @A }", "enum E { A(int), B, @A }", "enum E { A, @A(Q) }",
		"struct S<T, @T> { x: Q }", "enum E { A, @A, B(Q) }")
	checkFaults(t, api.ErrName, ahead, behind, "struct S { x: @Q, x: int }", "enum E { A(@Q), A }", "enum E { A(int, @Q) }", "struct S { x: @Q } struct R<T, T> { }", "struct S { x: @T } struct R<T> { }", "struct S<T> { x: T } struct R { x: @T }", "struct S { x: @&'a int }")
	checkPasses(t, ahead, behind, "struct S<'T, T> { x: &'T T }", "enum E { A(int, int), B(int) }", "struct S { A: int, S: bool }", "enum E { E, S } struct S { E: int }", "enum E { } struct S { }", "struct S<S> { x: S }")
}

// P11: what paths in types may say.
func TestTypePathFaults(t *testing.T) {
	const more = " struct D<'a, 'b, T, U> { } fn f() { } trait A { } enum E { X }" + behind + " mod k { use k2::W; struct P { } pub struct Q<T> { x: T } } mod k2 { pub struct W { } }"
	checkFaults(t, api.ErrName, ahead, more, "struct S { x: @T }", "struct S { x: @q::T }", "struct S { x: @k::T }", "struct S { x: @k::W }", "struct S { x: @main }", "struct S { x: @Self }", "struct S<T> { x: @T::T }", "struct S { x: @std::Box<int> }", "struct S { x: (int, Box<@Z>) }", "struct S { x: @Self::x }", "struct S { x: @k::Box<int> }")
	checkFaults(t, api.ErrPrivate, ahead, more, "struct S { x: @k::P }", "struct S { x: @k::P<int> }", "fn g(x: &(bool, @k::P)) { }")
	checkFaults(t, api.ErrSort, ahead, more, "struct S { x: @f }", "struct S { x: @A }", "struct S { x: @Copy }", "struct S { x: @out }", "struct S { x: @E::X }", "struct S { x: @Option::Some }", "struct S { x: @Box::x }", "struct S { x: @f::x }", "struct S { x: @A<int> }", "struct S { x: @E::X<int> }")
	checkFaults(t, api.ErrCount, ahead, more,
		"struct S { x: @Box }", "struct S { x: @Box<int, int> }", "struct S { x: @Box<'static, int> }", "struct S { x: @Box<'q, Z> }", "struct S { x: @E<int> }", "struct S { x: @E<'static> }", "struct S { x: @k::Q }", "struct S { x: @k::Q<int, int> }",
		"struct S { x: @Option }", "struct S { x: @Option<'static, int> }", "struct S { x: @D }", "struct S { x: @D<'static, 'static> }", "struct S { x: @D<'static, int, int> }", "struct S { x: @D<'q, Z, Z> }", "struct S { x: @D<'static, 'static, 'static, int, int> }", "struct S { x: @D<'static, 'static, int> }", "struct S { x: @D<int> }", "struct S { x: @D<int, int, int> }",
		"struct S { x: @Slice }", "struct S { x: @Slice<'static> }", "struct S { x: @Slice<'static, 'static, int> }", "struct S { x: @Slice<int, int> }", "struct S { x: @Lock }",
		"struct S<T> { x: @T<int> }", "struct S<'a, T> { x: @T<'a> }", "struct S<Box> { x: @Box<int> }", "struct S<T> { x: Vec<@T<Z> > }", "trait B { fn f(self: @Self<int>); }", "impl A for int { } trait B { fn f(self: Self, x: @Self<'q>); }")
	checkPasses(t, ahead, more, "struct S { x: k::Q<int> }", "struct S { x: D<'static, 'static, int, bool> }", "fn g(x: D<int, bool>) { }", "fn g(x: Slice<int>, y: Slice<'static, int>) { }", "struct S<Box> { x: Box }", "struct S<'a, T> { x: Lock<'a, T> }", "struct S { x: E, y: m::E }")
}

// P11: lifetimes: those that are not in sight, and those that may not be there or cannot be told.
func TestLifeFaults(t *testing.T) {
	const more = " struct D<'a, 'b, T> { } trait A { }" + behind
	checkFaults(t, api.ErrName, ahead, more,
		"struct S { x: @&'a int }", "struct S<'b> { x: @&'a int }", "struct S<'a> { x: D<'a, @'b, Z> }", "struct S<'a> { x: D<@'b, 'c, int> }", "fn f(x: @&'a int) { }", "fn f<'a>(x: @&'b int) { }", "fn f(x: @fn 'a() -> Z) { }", "fn f(x: Slice<@'a, int>) { }", "fn f<'a>() -> @&'b int { }", "trait B { fn f(self: @&'a Self); }", "impl A for @&'a int { }", "fn f(x: & @&'a int) { }", "fn f<'a>(x: &'a int, y: @&'b Z) { }")
	checkFaults(t, api.ErrLife, ahead, more,
		"struct S { x: @&int }", "struct S { x: @&mut int }", "struct S { x: @fn() -> int }", "struct S { x: @fn() -> Z }", "struct S { x: @Slice<int> }", "struct S { x: @D<Z> }", "struct S<'a> { x: &'a @&int }", "enum E { A(int, @&Z) }", "struct S { x: (int, Box<@Lock<int> >) }", "struct S<'a> { x: D<'a, 'static, @&int> }",
		"fn f() -> @&int { }", "fn f(x: int) -> @&int { }", "fn f(x: &int, y: &int) -> @&int { }", "fn f(x: &&int) -> @&int { }", "fn f<'a, 'b>(x: &'a int, y: &'b int) -> @&int { }", "fn f(x: D<int>) -> (int, @&int) { }", "fn f<'a>() -> @&int { }", "fn f(x: &'static int) -> @&int { }", "fn f(self: int) -> @Slice<int> { }", "fn f(self: (&int, &int)) -> @&int { }", "fn f(x: int, self: &int, y: &int) -> @&int { }", "fn f(self: Slice<int>, y: &int) -> @&int { }", "fn f(x: &int, y: &int) -> @fn() -> int { }", "fn f(x: &int, y: &int) -> @D<Z> { }", "fn f(x: &int, y: &int) -> &'static @&int { }", "trait B { fn f(self: Self) -> @&int; }", "trait B { fn f(self: Self, x: &int, y: &int) -> @&int; }")
	checkPasses(t, ahead, more,
		"struct S { x: &'static int, y: fn 'static() -> int, z: D<'static, 'static, int> }", "fn f(x: &int) -> &int { }", "fn f(x: &int) -> (D<int>, fn() -> int, &mut Slice<bool>) { }", "fn f<'a>(x: &'a int, y: &'a int) -> &int { }", "fn f(x: &'static int, y: &int) -> &int { }", "fn f(self: &int, y: &int) -> &int { }", "fn f(self: &mut int, y: &int) -> &int { }", "fn f(x: int, y: (int, Vec<Slice<int> >)) -> &int { }", "fn f(x: fn() -> int) -> &int { }", "fn f<'a>(x: int) -> &'a int { }", "fn f() -> &'static int { }")
}

// P11: within the types of a YFn no lifetime may stand or have to.
func TestLivesWithinFnTypes(t *testing.T) {
	const more = " struct D<'a, T> { }" + behind
	var texts []string
	for _, inner := range []string{"@&int", "@&mut int", "@&'a int", "@&'q int", "@&'static int", "@fn() -> int", "@fn 'a() -> int", "@fn once(&int) -> int", "@Slice<int>", "Slice<@'a, int>", "Slice<@'q, int>", "@D<int>", "D<@'static, Z>", "(int, @&Z)", "Vec<@&int>", "Box<(bool, D<@'a, int>)>"} {
		texts = append(texts,
			"struct S<'a> { x: fn 'a("+inner+") -> int }", "struct S<'a> { x: fn 'a(int, bool) -> "+inner+" }", "fn f<'a>(x: fn("+inner+") -> &int) { }", "fn f<'a>(x: fn once(int, "+inner+", Z) -> int) { }", "fn f<'a>(x: &'a int) -> fn mut() -> "+inner+" { }", "impl<'a> A for fn("+inner+") -> int { } trait A { }")
	}
	checkFaults(t, api.ErrLife, ahead, more, texts...)
	checkFaults(t, api.ErrCount, ahead, more, "struct S<'a> { x: fn 'a(@D<'a, 'a, int>) -> int }", "fn f(x: fn(@Slice) -> int) { }", "fn f(x: fn(@Box<'a, int>) -> int) { }")
	checkFaults(t, api.ErrName, ahead, more, "fn f(x: fn(@Z) -> &int) { }", "fn f(x: fn(int) -> int, y: @&'a int) { }")
	checkPasses(t, ahead, more, "struct S<'a, T> { x: fn 'a((T, int), Box<bool>) -> Vec<T> }", "fn f(x: fn(int) -> int, y: &int, z: (fn(bool) -> (), &bool)) { }", "fn f(x: fn() -> ()) -> fn() -> () { }")
}

// P11: what stands in a type is looked at from left to right, a thing's own lifetimes ahead of its types.
func TestOrderWithinTypes(t *testing.T) {
	const more = " struct D<'a, 'b, T, U> { }" + behind
	checkFaults(t, api.ErrName, ahead, more, "struct S { x: (@Y, &int, Box) }", "struct S { x: D<@'q, 'r, Y, &int> }", "struct S { x: D<'static, @'r, Y, &int> }", "struct S { x: D<'static, 'static, @Y, &int> }", "struct S { x: @&'q Y }", "struct S { x: @fn 'q(Y) -> &int }", "struct S { x: fn 'static(@Y) -> &int }", "struct S { x: fn 'static() -> @Y }")
	checkFaults(t, api.ErrLife, ahead, more, "struct S { x: (@&Y, Y) }", "struct S { x: @D<Y, Box> }", "struct S { x: D<'static, 'static, @&int, Y> }", "struct S { x: @fn(Y) -> int }", "struct S { x: fn 'static(@&int, Y) -> Z }")
	checkFaults(t, api.ErrCount, ahead, more, "struct S { x: (@Box, Y) }", "struct S { x: @D<'q, Y, Y> }", "struct S { x: (int, @Slice<&int, Y>) }")
}

// P11, step 4: data types that would hold themselves.
func TestSizeFaults(t *testing.T) {
	checkFaults(t, api.ErrSize, ahead, behind,
		"@struct S { x: S }", "@pub copy struct S { x: S }", "@enum E { A, B(int, E) }", "@struct S { x: (int, (bool, S)) }", "@struct S { x: Option<S> }", "@struct S { x: Cell<S> }", "@struct S { x: RefCell<Option<S> > }", "@struct S { x: Mutex<(S, int)> }",
		"@struct S { x: R } struct R { y: S }", "struct Q { x: S, y: Q2 } @struct S { x: R } struct R { y: S } struct Q2 { }", "@struct A { x: B } struct B { x: C } enum C { X(Cell<A>) }", "struct P<T> { } @struct S { x: P<S> }", "@struct S { x: P<S> } struct P<T> { x: Box<T> }", "@struct S<T> { x: Option<S<int> > }", "@struct S<T> { x: T, y: Box<int>, z: P<P<(S<bool>, int)> > } struct P<T> { }", "struct A { x: B } struct B { x: C } @struct C { x: D } struct D { x: C }", "struct P<T> { x: T } struct B { y: int } @struct S { x: P<P<S> > }", "struct P<'a> { x: Slice<'a, int> } @struct S<'a> { p: P<'a>, y: S<'a> }")
	checkPasses(t, ahead, behind,
		"struct S<'a> { x: &'a S<'a>, y: &'a mut S<'a>, z: fn 'a(int) -> int }", "struct S { x: Box<S> }", "struct S { x: Vec<S>, y: Rc<S>, z: Arc<S> }", "struct S { x: Sender<S>, y: Receiver<S>, z: Handle<S> }", "struct S<'a> { x: Slice<'a, S<'a> >, y: SliceMut<'a, S<'a> > }", "struct S<'a> { x: Ref<'a, S<'a> >, y: RefMut<'a, S<'a> >, z: Lock<'a, S<'a> > }", "struct S { x: fn 'static(S) -> S }", "struct S { x: Option<Box<S> > }", "struct S { x: RefCell<Option<Rc<S> > > }", "struct S { x: Box<Cell<S> >, y: Box<(S, R)> } struct R { x: Option<Vec<S> > }", "struct P<T> { x: T } struct S { x: P<P<int> > } struct R { x: S, y: S }", "struct S { x: Option<Option<int> > }", "struct S { x: Box<R> } struct R { x: S }")
	// Sizes come behind all data types, and ahead of traits.
	checkFaults(t, api.ErrName, ahead, behind, "struct S { x: S } struct R { x: @Z }")
	checkFaults(t, api.ErrSize, ahead, behind, "trait A { fn f(); } @struct S { x: S } fn f(x: Z) { }")
	checkFaults(t, api.ErrSize, "", mainMod, "mod m { struct A { x: k::B } } mod k { @pub struct B { x: B } }", "mod m { @pub struct A { x: k::B } } mod k { pub struct B { x: m::A } }")
}

// P11, step 5: the methods of traits.
func TestTraitFaults(t *testing.T) {
	checkFaults(t, api.ErrTwice, ahead, behind, "trait A { fn f(self: Self); @fn f(self: Self); }", "trait A { fn f(self: Self); fn g(self: Self); @fn f(); }", "trait A { fn f(self: Self, @self: Self); }", "trait A { fn f(self: Self, x: int, @mut x: Z); }", "trait A { fn f(x: int, @x: int); }")
	checkFaults(t, api.ErrImpl, ahead, behind,
		"trait A { @fn f(); }", "trait A { @fn f(x: Self); }", "trait A { @fn f(x: int, self: Self); }", "trait A { @fn f(self: int); }", "trait A { @fn f(self: (Self, int)); }", "trait A { @fn f(self: Box<Self>); }", "trait A { @fn f(self: &&Self); }", "trait A { @fn f(self: &mut &Self); }", "trait A { @fn f(self: &int); }", "trait A { fn g(self: Self); @fn f(self: ()); }", "struct S { } trait A { @fn f(self: &S); }", "trait A { @fn f(self: fn() -> Self); }", "trait A { @fn f(self: Slice<Self>); }")
	checkFaults(t, api.ErrName, ahead, behind, "trait A { fn f(x: @Z); }", "trait A { fn f() -> @Z; }", "trait A { fn f(x: @A2); fn f(); } struct S { }", "trait A { fn f(self: &@Z); }")
	checkFaults(t, api.ErrSort, ahead, behind, "trait A { fn f(self: @A); }")
	checkPasses(t, ahead, behind, "trait A { fn f(self: Self); fn g(self: &Self); fn h(self: &mut Self, f: int, g: Self) -> Self; fn i(mut self: Self); fn j(self: &'static Self); } trait B { fn f(self: Self); }", "trait A { }", "trait A { fn f(self: Self, g: fn(Self) -> Vec<Self>, h: Option<&Self>); }")
	// Traits come ahead of functions and impls.
	checkFaults(t, api.ErrImpl, ahead, behind, "fn g(x: Z) { } trait A { @fn f(); }", "impl A for Z { } trait A { @fn f(); }")
}

// P11, step 6: functions and their bounds.
func TestFnFaults(t *testing.T) {
	const more = " trait A { } enum E { X }" + behind + " mod k { trait P { } pub trait Q { } }"
	checkFaults(t, api.ErrTwice, ahead, more, "fn f<'a, @'a>() { }", "fn f<@'static>() { }", "fn f<T, @T>() { }", "fn f<'a, T, U: A, @T: Z>() { }", "fn f<'a: 'q, @'a>() { }", "fn f<T: Z, @T>() { }", "fn f(x: int, @x: int) { }", "fn f(x: int, y: int, @mut x: Z) { }", "fn f<T, @T>(x: Z) { }")
	checkFaults(t, api.ErrName, ahead, more,
		"fn f<'a: @'b>() { }", "fn f<'a: 'a + @'b + 'c, 'd: 'e>() { }", "fn f<'a: 'b, 'b: @'c>() { }", "fn f<T: @'a>() { }", "fn f<'a, T: 'a + @'b>() { }", "fn f<T: A + @Z>() { }", "fn f<T: @Z + 'q>() { }", "fn f<T: @q::A>() { }", "fn f<T: @k::A>() { }", "fn f<T: @Z>(x: int, x: int) { }", "fn f<T: Copy, U: @T2>() { }",
		"fn f(x: @Z, x: int) { }", "fn f(x: int, y: @Z) -> Y { }", "fn f() -> @Y { }", "fn f(x: @Self) { }", "fn f<T: 'static + @T>() { }", "fn f<'a: 'static + @'b>() { }")
	checkFaults(t, api.ErrPrivate, ahead, more, "fn f<T: @k::P>() { }", "fn f<T: A + @k::P + Z>() { }")
	checkFaults(t, api.ErrSort, ahead, more, "fn f<T: @Drop>() { }", "fn f<T: @E>() { }", "fn f<T: @f>() { }", "fn f<T: @out>() { }", "fn f<T: @Box>() { }", "fn f<T: @A::x>() { }", "fn f<T: @Copy::x>() { }", "fn f<T: Send + @Option>() { }", "fn f<T: @E::X>() { }", "fn f<T: @Drop::drop>() { }")
	checkPasses(t, ahead, more, "fn f<'a: 'b + 'static + 'b, 'b, T: 'b + Copy + 'static + A + A, U: k::Q + Send + Sync>() { }", "fn f<'a: 'a>() { }", "fn f<A: A>(x: A) { }", "fn f<Self: A>(x: Self) -> Self { }", "fn f<int2>(f: int2, mut self: int) { }", "fn f<T>(T: T) { }", "fn f<T: Drop2>() { } trait Drop2 { }")
	checkPasses(t, "mod m { trait Drop { } fn f<T: Drop>() { } }", mainMod, "")
	// Functions and impls stand in one order, through all modules.
	checkFaults(t, api.ErrName, "", mainMod, "mod m { trait A { } fn f(x: @Z) { } impl A for Y { } }", "mod m { trait A { } impl A for @Y { } fn f(x: Z) { } }", "mod m { fn f(x: @Z) { } } mod k { impl Q for int { } }")
}

// P11, step 6: impls: their parameters, trait and type.
func TestImplHeadFaults(t *testing.T) {
	const more = " trait A { } enum E { X } struct D<'a, 'b, T, U> { }" + behind + " mod k { trait P { } pub trait Q { } struct S { } pub struct R { } }"
	checkFaults(t, api.ErrTwice, ahead, more, "impl<'a, @'a> A for int { }", "impl<@'static> A for int { }", "impl<T: Z, @T> A for int { }")
	checkFaults(t, api.ErrLife, ahead, more, "impl<'a: @'a> A for &'a int { }", "impl<'a: @'q> A for Z { }", "impl<T: @'static> A for T { }", "impl<'a, T: A + @'a + Z> A for T { }", "impl<T: @'q> Z for T { }", "impl<'a: @'a, T: Z> A for T { }", "impl A for fn(@&int) -> int { }")
	checkFaults(t, api.ErrName, ahead, more, "impl<T: @Z> A for T { }", "impl<T: @Z + 'static> A for T { }", "@impl Z for int { }", "@impl k::A for Y { }", "@impl q::A for int { }", "impl A for @Y { }", "impl A for @Self { }", "impl A for (int, @T) { }", "impl<T> A for (@&'q int, T) { }")
	checkFaults(t, api.ErrPrivate, ahead, more, "@impl k::P for int { }", "impl A for @k::S { }", "impl<T: @k::P> Z for T { }")
	checkFaults(t, api.ErrSort, ahead, more, "@impl E for int { }", "@impl Box for Z { }", "@impl A::x for int { }", "@impl Copy::x for int { }", "@impl out for int { }", "impl<T: @Drop> A for T { }", "impl A for @A { }")
	checkFaults(t, api.ErrImpl, ahead, more,
		"@impl Copy for int { }", "@impl Send for Z { }", "@impl<T> Sync for Box<T> { }",
		"@impl<T> A for int { }", "@impl<T, U> A for Box<T> { }", "@impl<T> A for (T, T) { }", "@impl<T> A for (T, Box<T>) { }", "@impl<T, U> A for (T, U, T) { }", "@impl<T> A for fn(T) -> T { }", "@impl<T, U> A for D<T, T> { }", "@impl<T> A for D<T, D<T, int> > { }",
		"@impl<'a> A for (&'a int, &'a int) { }", "@impl<'a> A for &'a &'a int { }", "@impl<'a> A for D<'a, 'a, int, int> { }", "@impl<'a> A for (Slice<'a, int>, fn 'a() -> int) { }", "@impl A for &'static int { }", "@impl<'a> A for D<'a, 'static, int, int> { }", "@impl A for Box<Lock<'static, int> > { }")
	checkPasses(t, ahead, more, "impl<'a> A for int { }", "impl<'a, 'b> A for (&'b int, &int, &'a int) { }", "impl<T: Copy + A + A> A for T { }", "impl<T, U> A for (U, T) { }", "impl A for D<int, int> { }", "impl<'a, 'b, T> A for D<'b, 'a, int, T> { }", "impl k::Q for fn(int) -> int { }", "impl A for k::R { }", "impl<T> A for fn(T) -> int { }")
}

// P11, step 6: impls of Drop.
func TestDropFaults(t *testing.T) {
	const more = " struct S<T> { x: T } struct R { } copy struct C { } enum E<'a, 'b, T, U> { A(&'a T, &'b U) } copy enum F<T> { } trait A { }" + behind
	var texts []string
	for _, head := range []string{
		"<T> Drop for T", " Drop for int", " Drop for (int, R)", " Drop for &R", " Drop for Box<R>", "<T> Drop for Vec<T>", " Drop for C", "<T> Drop for F<T>", "<T> Drop for Option<T>", " Drop for S<int>", " Drop for S<R>", "<T> Drop for S<Box<T> >", "<T> Drop for S<(T, int)>", "<T: Copy> Drop for S<T>", "<T: A> Drop for S<T>",
		"<T, U> Drop for E<U, T>", "<'a, 'b, T, U> Drop for E<'b, 'a, T, U>", "<'a, T, U: A> Drop for E<T, U>", "<T> Drop for E<T, int>", "<T> Drop for E<int, T>", "<T> Drop for S<S<T> >", "<'a> Drop for R", "<'a, T> Drop for S<T>", "<'a, T, U> Drop for E<T, U>", "<'a, 'b, 'c, T, U> Drop for E<'a, 'b, T, U>", " Drop for fn() -> R", " Drop for S<&int>", " Drop for ()",
	} {
		texts = append(texts, "@impl"+head+" { fn drop(self: &mut Self) { } }", "@impl"+head+" { }")
	}
	checkFaults(t, api.ErrImpl, ahead, more, texts...)
	checkFaults(t, api.ErrCount, ahead, more, "@impl Drop for R { }", "@impl<T> Drop for S<T> { fn drop(self: &mut Self) { } fn f() { } }")
	checkFaults(t, api.ErrImpl, ahead, more, "impl Drop for R { @fn drop(self: &Self) { } }", "impl Drop for R { @fn drop(self: Self) { } }", "impl Drop for R { @fn drop() { } }", "impl Drop for R { @fn dropp(self: &mut Self) { } }", "impl Drop for R { @fn drop(self: &mut Self) -> int { } }", "impl Drop for R { @fn drop(self: &mut Self, x: int) { } }", "impl Drop for R { @fn drop(self: &'static mut Self) { } }")
	checkPasses(t, ahead, more, "impl Drop for R { fn drop(self: &mut R) { } }", "impl Drop for m::R { fn drop(mut x: &mut Self) -> () { } }", "impl<X> Drop for S<X> { fn drop(self: &mut S<X>) { } }", "impl<X, Y> Drop for E<X, Y> { fn drop(self: &mut Self) { } }", "impl<'b, 'a, X, Y> Drop for E<'b, 'a, X, Y> { fn drop(self: &mut E<'b, 'a, X, Y>) { } }", "impl Drop for R { fn drop(self: &mut R) { } } impl Drop for R { fn drop(self: &mut R) { } }")
	checkPasses(t, "mod m { trait Drop { } impl Drop for int { } }", mainMod, "")
}

// P11, step 6: the functions of impls are those of the trait.
func TestImplFnFaults(t *testing.T) {
	const more = " trait A { fn f(self: &Self, x: int) -> &int; fn g(self: Self, y: &Self, z: &'static int) -> (Self, &int); } trait N { } struct D<'a, T> { x: &'a T }" + behind
	const f, g = " fn f(self: &Self, x: int) -> &int { }", " fn g(self: Self, y: &Self, z: &'static int) -> (Self, &int) { }"
	checkFaults(t, api.ErrCount, ahead, more, "@impl A for int { }", "@impl A for int {"+f+" }", "@impl A for int {"+f+g+" fn h() { } }", "@impl N for int { fn f(x: Z) { } }", "@impl A for int { fn h(x: Z) { } }")
	checkFaults(t, api.ErrImpl, ahead, more, "impl A for int { @fn g(self: Z) { }"+f+" }", "impl A for int {"+f+" @fn f(self: int) { } }", "impl A for int { @fn h(x: Z) { }"+g+" }")
	checkFaults(t, api.ErrName, ahead, more, "impl A for int { fn f(self: @Z) { }"+g+" }", "impl A for int { fn f() -> @Z { }"+g+" }", "impl A for int {"+f+" fn g(x: @&'a int) { } }", "impl<T> A for Box<T> { fn f(x: @U) { }"+g+" }")
	checkFaults(t, api.ErrTwice, ahead, more, "impl A for int { fn f(self: int, @self: Z) { }"+g+" }")
	checkFaults(t, api.ErrLife, ahead, more, "impl A for int { fn f(x: &int, y: &int) -> @&int { }"+g+" }")
	checkFaults(t, api.ErrCount, ahead, more, "impl A for int { fn f(self: @Self<int>) { }"+g+" }", "impl<T> A for Box<T> { fn f(self: @T<int>) { }"+g+" }")
	checkFaults(t, api.ErrImpl, ahead, more,
		"impl A for int { @fn f(self: &Self) -> &int { }"+g+" }", "impl A for int { @fn f(self: &Self, x: int, y: int) -> &int { }"+g+" }", "impl A for int { @fn f(self: &Self, x: bool) -> &int { }"+g+" }", "impl A for int { @fn f(self: &Self, x: int) -> &mut int { }"+g+" }", "impl A for int { @fn f(self: &Self, x: int) -> &bool { }"+g+" }", "impl A for int { @fn f(self: &Self, x: int) -> &'static int { }"+g+" }", "impl A for int { @fn f(self: &Self, x: int) { }"+g+" }", "impl A for int { @fn f(self: &mut Self, x: int) -> &int { }"+g+" }", "impl A for int { @fn f(self: &bool, x: int) -> &int { }"+g+" }", "impl A for int { @fn f() { }"+g+" }",
		"impl A for &int { @fn f(self: &&int, x: int) -> &int { }"+g+" }", "impl<'a> A for &'a int {"+f+" @fn g(self: &int, y: &Self, z: &'static int) -> (&'a int, &int) { } }",
		// Self is a reference here: a result without a lifetime has Self's, not the second parameter's as in the trait.
		"impl<'a> A for &'a int {"+f+" @fn g(self: Self, y: &Self, z: &'static int) -> (Self, &int) { } }",
		"impl A for D<int> {"+f+" @fn g(me: Self, y: &D<int>, z: &'static int) -> (Self, &'static int) { } }", "impl<'a> A for D<'a, int> { @fn f(self: &'a Self, x: int) -> &int { }"+g+" }", "impl<'a, 'b> A for D<'a, int> { @fn f(self: &'b Self, x: int) -> &'b int { }"+g+" }", "impl<'a> A for D<'a, int> { @fn f(self: &Self, x: int) -> &'a int { }"+g+" }",
		"impl<T, U> A for (T, U) { @fn f(self: &(U, T), x: int) -> &int { }"+g+" }", "impl A for int {"+f+" @fn g(self: Self, y: &Self, z: &int) -> (Self, &'static int) { } }")
	checkPasses(t, ahead, more, "impl A for int {"+f+g+" }", "impl A for int { fn f(self: &int, mut y: int) -> &int { } fn g(self: int, x: &int, y: &'static int) -> (int, &int) { } }", "impl<T: Copy> A for Box<T> {"+f+" fn g(a: Box<T>, b: &Box<T>, c: &'static int) -> (Self, &int) { } }", "impl N for &int { }", "impl<'a> N for D<'a, int> { }",
		"impl<'a> B for &'a int { fn f(x: &'a int) -> &'a int { } } trait B { fn f(self: Self) -> Self; }", "impl B for &int { fn f(x: Self) -> Self { } } trait B { fn f(self: Self) -> Self; }", "impl B for &int { fn f(self: &Self) -> &Self { } } trait B { fn f(self: &Self) -> &Self; }", "impl<'a> B for D<'a, int> { fn f(self: &D<'a, int>, x: &int) -> &D<'a, int> { } } trait B { fn f(self: &Self, y: &int) -> &Self; }", "impl B for &int { fn f(self: Self, g: fn(Self) -> int) { } } trait B { fn f(self: Self, h: fn(Self) -> int); }")
}

// P11, step 7: what `copy` may stand ahead of.
func TestCopyFaults(t *testing.T) {
	const more = " struct N { } copy struct Y { } copy struct G<T> { x: T } struct H<T> { x: T }" + behind
	var bad, good []string
	for _, part := range []string{"N", "&'a mut int", "Box<int>", "Vec<int>", "Rc<int>", "Arc<int>", "Cell<int>", "RefCell<int>", "Mutex<int>", "Sender<int>", "Receiver<int>", "Handle<int>", "SliceMut<'a, int>", "Ref<'a, int>", "RefMut<'a, int>", "Lock<'a, int>", "fn 'a() -> int", "(int, N)", "(int, (bool, Box<int>))", "G<N>", "G<G<Box<int> > >", "H<int>", "Option<N>", "Option<&'a mut int>", "(&'a int, Option<fn 'a() -> int>)"} {
		bad = append(bad, "@copy struct S<'a> { y: int, x: "+part+" }", "@pub copy enum S<'a, T> { A, B(T), C(int, "+part+") }")
	}
	for _, part := range []string{"int", "bool", "T", "&'a int", "&'a N", "&'a Box<int>", "&'a &'a mut int", "Slice<'a, int>", "Slice<'a, N>", "()", "(int, T)", "(int, (bool, &'a N))", "Y", "G<int>", "G<T>", "G<(Y, G<Y>)>", "Option<int>", "Option<Option<T> >"} {
		good = append(good, "copy struct S<'a, T> { y: int, x: "+part+" }", "pub copy enum S<'a, T> { A, B(T), C(int, "+part+") }", "struct S<'a, T> { x: "+part+", y: Box<T>, z: &'a mut int }")
	}
	checkFaults(t, api.ErrCopy, ahead, more, bad...)
	checkPasses(t, ahead, more, good...)
	// The first one in number; behind functions and impls, ahead of main.
	checkFaults(t, api.ErrCopy, ahead, more, "copy struct S { x: Y } @copy struct R { x: N } copy struct Q { x: N }")
	checkFaults(t, api.ErrName, ahead, more, "copy struct S { x: N } fn f(x: @Z) { }")
	checkFaults(t, api.ErrCopy, "", "", "mod m { @copy struct S { x: Box<int> } }")
}

// P11, step 8: main.
func TestMainFaults(t *testing.T) {
	checkFaults(t, api.ErrMain, "@", "",
		"", "mod main { }", "mod m { fn main(n: int) -> int { n } }", "mod main { fn main() -> int { 1 } }", "mod main { fn main(n: int) { } }", "mod main { fn main(n: bool) -> int { 1 } }", "mod main { fn main(n: int) -> bool { true } }", "mod main { fn main(n: int, m: int) -> int { n } }", "mod main { fn main<T>(n: int) -> int { n } }", "mod main { fn main<'a>(n: int) -> int { n } }", "mod main { fn main(n: &int) -> int { 1 } }", "mod main { fn main(n: (int, int)) -> int { 1 } }", "mod main { struct main { } }", "mod main { trait main { } }", "mod main { enum main { main } fn f(n: int) -> int { n } }",
		"mod main { use m::main; } mod m { pub fn main(n: int) -> int { n } }", "mod main { trait A { fn main(self: Self) -> int; } impl A for int { fn main(self: int) -> int { self } } }", "mod Main { fn main(n: int) -> int { n } }", "mod main { fn Main(n: int) -> int { n } }", " # a remark alone")
	checkPasses(t, "", "", "mod main { fn main(n: int) -> int { n } }", "mod main { pub fn main(mut x: int) -> int { 1 } }", "mod m { fn f() { } } mod main { fn g() { } fn main(main: int) -> int { f() } fn h() { } }", "mod main { fn main(n: (int)) -> (int) { n } }")
}
