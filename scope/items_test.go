package scope

import (
	"reflect"
	"slices"
	"testing"

	"holdfast/api"
)

// P11: what there is without a text's own items.
func TestStdItems(t *testing.T) {
	text := "mod main { fn main(n: int) -> int { n } }"
	p := program(t, text)
	same(t, text, tellAll(p.Mods, tellModule), "main: main fn0;")
	same(t, text, tellAll(p.Datas, tellData), "pub Option mod-1 @0 copy true enum true lives 0 gens 1 drop -1: None() Some(pub :T0)")
	same(t, text, tellAll(p.Traits, tellTrait),
		"pub Copy mod-1 @0: ", "pub Send mod-1 @0: ", "pub Sync mod-1 @0: ", "pub Drop mod-1 @0: drop 1 [] [{[] []}] (&mut'1 T0)->()")
	same(t, text, tellAll(p.Impls, tellImpl))
	same(t, text, tellAll(p.Fns, tellFn), "main mod0 @`fn main` impl -1 kind -1 types [] sig 0 [] [] (int)->int vars (n:int)")
}

// P11: numbers and names go through all modules in the order of the text.
func TestNumbers(t *testing.T) {
	text := "mod b { use a::S; use main::T; use a::g; pub fn f() { } impl T for int { fn x(self: int) { } fn y(self: int) { } } struct R { } pub trait U { } }" +
		" mod a { fn f() { } pub fn g() { } pub struct S { } enum E { } }" +
		" mod main { use b::U; impl U for int { } fn main(n: int) -> int { n } pub trait T { fn x(self: Self); fn y(self: Self); } struct Z { } impl Drop for Z { fn drop(self: &mut Z) { } } pub fn last() { } }"
	p := program(t, text)
	same(t, text, tellAll(p.Mods, tellModule),
		"b: pub f fn0, R data1, pub U trait4; S data2, T trait5, g fn4",
		"a: f fn3, pub g fn4, pub S data2, E data3; ",
		"main: main fn5, pub T trait5, Z data4, pub last fn7; U trait4")
	var names []string
	for _, f := range p.Fns {
		names = append(names, f.Name)
	}
	if want := []string{"f", "x", "y", "f", "g", "main", "drop", "last"}; !slices.Equal(names, want) || p.Main != 5 {
		t.Error(names, p.Main)
	}
	same(t, text, tellAll(p.Impls, tellImpl),
		"trait5 mod0 @`impl T for` lives 0 gens [] self int fns [1 2]",
		"trait4 mod2 @`impl U for` lives 0 gens [] self int fns []",
		"trait3 mod2 @`impl Drop` lives 0 gens [] self D4<> fns [6]")
	if got := []int{p.Datas[1].Mod, p.Datas[2].Mod, p.Datas[3].Mod, p.Datas[4].Mod, p.Traits[4].Mod, p.Traits[5].Mod, p.Fns[4].Mod, p.Fns[6].Mod}; !slices.Equal(got, []int{0, 1, 1, 2, 0, 2, 1, 2}) {
		t.Error(got)
	}
	if got := []int{p.Fns[0].Impl, p.Fns[1].Impl, p.Fns[2].Impl, p.Fns[5].Impl, p.Fns[6].Impl}; !slices.Equal(got, []int{-1, 0, 0, -1, 2}) {
		t.Error(got)
	}
	if p.Datas[4].Drop != 6 || p.Datas[1].Drop != -1 {
		t.Error(p.Datas)
	}
}

// P11: data types.
func TestDatas(t *testing.T) {
	text := "mod m { struct S { } pub struct P<'a, 'b, T, U> { pub x: &'b T, y: &'a mut (U, int), z: k::E<'static, 'a, bool> } copy enum C { A, B } pub copy struct Q<T> { x: T, pub T: () } }" +
		" mod k { pub enum E<'x, 'y, T> { A(T), B, C(Box<E<'y, 'x, T> >, Slice<'x, T>, fn 'y mut(int, T) -> Option<T>), D(Box<m::P<'x, 'x, int, T> >) } }" + mainMod
	same(t, text, tellAll(program(t, text).Datas[1:], tellData),
		"S mod0 @`struct S` copy false enum false lives 0 gens 0 drop -1: ()",
		"pub P mod0 @`pub struct P` copy false enum false lives 2 gens 2 drop -1: (pub x:&'2 T0, y:&mut'1 (T1, int), z:D5'-1'1<bool>)",
		"C mod0 @`copy enum` copy true enum true lives 0 gens 0 drop -1: A() B()",
		"pub Q mod0 @`pub copy` copy true enum false lives 0 gens 1 drop -1: (x:T0, pub T:())",
		"pub E mod1 @`pub enum E` copy false enum true lives 2 gens 1 drop -1: A(pub :T0) B() C(pub :Box<D5'2'1<T0>>, pub :Slice'1<T0>, pub :fn1'2(int, T0)->D0<T0>) D(pub :Box<D2'1'1<int, T0>>)")
}

// checkSigs holds the signatures of functions, each written alone in a module, against how they are told.
func checkSigs(t *testing.T, more string, texts ...string) {
	t.Helper()
	for i := 0; i < len(texts); i += 2 {
		text := "mod m { fn f" + texts[i] + " { } " + more + " }" + mainMod
		same(t, text, tellSig(program(t, text).Fns[0].Sig), texts[i+1])
	}
}

// P11: lifetimes of parameters and results.
func TestLives(t *testing.T) {
	checkSigs(t, "struct D<'a, 'b, T> { }",
		"()", "0 [] [] ()->()",
		"(x: &int)", "1 [] [] (&'1 int)->()",
		"(x: &int, y: &mut bool)", "2 [] [] (&'1 int, &mut'2 bool)->()",
		"(x: &&mut &int)", "3 [] [] (&'1 &mut'2 &'3 int)->()",
		"(x: fn(int) -> int, y: (fn once() -> (), &int))", "3 [] [] (fn0'1(int)->int, (fn2'2()->(), &'3 int))->()",
		"(x: D<&int>, y: Slice<D<int> >)", "6 [] [] (D1'1'2<&'3 int>, Slice'4<D1'5'6<int>>)->()",
		"<'a>(x: &int, y: &'a int, z: &int)", "3 [] [] (&'2 int, &'1 int, &'3 int)->()",
		"<'a, 'b>(x: D<'b, 'a, &int>, y: D<&'b int>)", "5 [] [] (D1'2'1<&'3 int>, D1'4'5<&'2 int>)->()",
		"<'a, 'b>()", "2 [] [] ()->()",
		"(x: &'static int, y: &int)", "1 [] [] (&'-1 int, &'1 int)->()",
		"(x: &int) -> &int", "1 [] [] (&'1 int)->&'1 int",
		"(x: int, y: Slice<int>) -> (&int, D<&bool>, fn() -> ())", "1 [] [] (int, Slice'1<int>)->(&'1 int, D1'1'1<&'1 bool>, fn0'1()->())",
		"(x: fn(int) -> int) -> Lock<int>", "1 [] [] (fn0'1(int)->int)->Lock'1<int>",
		"<'a>(x: &'a int, y: (&'a int, D<'a, 'a, int>)) -> &int", "1 [] [] (&'1 int, (&'1 int, D1'1'1<int>))->&'1 int",
		"<'a, 'b>(x: &'b int) -> &int", "2 [] [] (&'2 int)->&'2 int",
		"<'a, 'b>(x: &'b int, y: &int) -> &'b &'a int", "3 [] [] (&'2 int, &'3 int)->&'2 &'1 int",
		"(x: &'static int, y: &int) -> &int", "1 [] [] (&'-1 int, &'1 int)->&'1 int",
		"(x: &'static int) -> &'static int", "0 [] [] (&'-1 int)->&'-1 int",
		"(self: &int, x: &int) -> (&int, &int)", "2 [] [] (&'1 int, &'2 int)->(&'1 int, &'1 int)",
		"(mut self: &mut &int, x: &int) -> Slice<int>", "3 [] [] (&mut'1 &'2 int, &'3 int)->Slice'1<int>",
		"(self: &'static int, x: &int) -> &int", "1 [] [] (&'-1 int, &'1 int)->&'-1 int",
		"<'a, 'b>(self: &'b int, x: &'a int) -> &int", "2 [] [] (&'2 int, &'1 int)->&'2 int",
		"(self: int, x: &int) -> &int", "1 [] [] (int, &'1 int)->&'1 int",
		"(self: Slice<int>) -> &int", "1 [] [] (Slice'1<int>)->&'1 int",
		"(x: &int) -> &'static int", "1 [] [] (&'1 int)->&'-1 int",
	)
}

// P11: type parameters and bounds.
func TestBounds(t *testing.T) {
	checkSigs(t, "trait A { } trait B { } struct T { }",
		"<T>(x: T)", "0 [] [{[] []}] (T0)->()",
		"<X, T, Y>(x: Y, y: T) -> (X, X)", "0 [] [{[] []} {[] []} {[] []}] (T2, T1)->(T0, T0)",
		"(x: T)", "0 [] [] (D1<>)->()",
		"<X: Copy>() -> Vec<X>", "0 [] [{[0] []}] ()->Vec<T0>",
		"<X: B + Send + A + B, Y: Sync>()", "0 [] [{[5 1 4 5] []} {[2] []}] ()->()",
		"<'a, 'b, X: 'b + A + 'static + 'a + 'b>(x: &X)", "3 [] [{[4] [2 -1 1 2]}] (&'3 T0)->()",
		"<'a: 'b, 'b>()", "2 [{1 2}] [] ()->()",
		"<'a: 'b + 'static + 'a + 'b, 'b, 'c: 'a, X: 'c>()", "3 [{1 2} {1 -1} {1 1} {1 2} {3 1}] [{[] [3]}] ()->()",
		"<X, Y: m::A>() -> fn 'static(X) -> Y", "0 [] [{[] []} {[4] []}] ()->fn0'-1(T0)->T1",
		"<A: A>(x: A)", "0 [] [{[4] []}] (T0)->()",
	)
}

// P11: traits and impls, and their functions.
func TestImpls(t *testing.T) {
	text := "mod m { struct D<'a, T> { x: &'a T }" +
		" pub trait A { fn f(self: &Self, x: &int) -> &Self; fn g(mut self: Self, y: fn(Self) -> Self, z: &'static int); }" +
		" impl<'x, 'y, T: Copy + A, U> A for (U, D<'y, T>, &int) { fn f(self: &Self, a: &int) -> &Self { } fn g(mut b: Self, c: fn(Self) -> Self, d: &'static int) { } }" +
		" impl<V> Drop for D<V> { fn drop(mut me: &mut Self) { } }" +
		" impl<'k> A for D<'k, int> { fn f(self: &D<'k, int>, x: &int) -> &D<'k, int> { } fn g(self: Self, y: fn(Self) -> Self, z: &'static int) { } } }" + mainMod
	p := program(t, text)
	same(t, text, tellAll(p.Traits[api.TrFirst:], tellTrait),
		"pub A mod0 @`pub trait A`: f 2 [] [{[] []}] (&'1 T0, &'2 int)->&'1 T0; g 1 [] [{[] []}] (T0, fn0'1(T0)->T0, &'-1 int)->()")
	same(t, text, tellAll(p.Impls, tellImpl),
		"trait4 mod0 @`impl<'x` lives 3 gens [{[0 4] []} {[] []}] self (T1, D1'2<T0>, &'3 int) fns [0 1]",
		"trait3 mod0 @`impl<V>` lives 1 gens [{[] []}] self D1'1<T0> fns [2]",
		"trait4 mod0 @`impl<'k>` lives 1 gens [] self D1'1<int> fns [3 4]")
	const self = "(T1, D1'2<T0>, &'3 int)"
	same(t, text, tellAll(p.Fns[:5], tellFn),
		"f mod0 @`fn f(self: &Self, a` impl 0 kind -1 types [T U] sig 5 [] [{[0 4] []} {[] []}] (&'4 "+self+", &'5 int)->&'4 "+self+" vars (self:&'4 "+self+", a:&'5 int)",
		"g mod0 @`fn g(mut b` impl 0 kind -1 types [T U] sig 4 [] [{[0 4] []} {[] []}] ("+self+", fn0'4("+self+")->"+self+", &'-1 int)->() vars (mut b:"+self+", c:fn0'4("+self+")->"+self+", d:&'-1 int)",
		"drop mod0 @`fn drop` impl 1 kind -1 types [V] sig 2 [] [{[] []}] (&mut'2 D1'1<T0>)->() vars (mut me:&mut'2 D1'1<T0>)",
		"f mod0 @`fn f(self: &D` impl 2 kind -1 types [] sig 3 [] [] (&'2 D1'1<int>, &'3 int)->&'2 D1'1<int> vars (self:&'2 D1'1<int>, x:&'3 int)",
		"g mod0 @`fn g(self: Self, y` impl 2 kind -1 types [] sig 2 [] [] (D1'1<int>, fn0'2(D1'1<int>)->D1'1<int>, &'-1 int)->() vars (self:D1'1<int>, y:fn0'2(D1'1<int>)->D1'1<int>, z:&'-1 int)")
	if p.Datas[1].Drop != 2 {
		t.Error(p.Datas[1])
	}
}

// P11: the first impl of Drop counts for its data type.
func TestFirstDrop(t *testing.T) {
	p := program(t, "mod m { struct S { } struct R { } impl Drop for R { fn drop(self: &mut R) { } } impl Drop for S { fn drop(self: &mut S) { } } impl Drop for S { fn drop(self: &mut S) { } } impl Drop for R { fn drop(self: &mut R) { } } }"+mainMod)
	if p.Datas[1].Drop != 1 || p.Datas[2].Drop != 0 || p.Datas[0].Drop != -1 || len(p.Impls) != 4 {
		t.Error(p.Datas, p.Impls)
	}
}

// P11: functions have their blocks, and nothing that later chapters tell of.
func TestFns(t *testing.T) {
	text := "mod m { pub fn f<'a, T: 'a>(mut x: &'a T, y: int) -> int { y + 1 } trait A { fn g(self: Self); } impl A for int { fn g(self: int) { out(self); } } }" + mainMod
	n := tree(t, text)
	p := program(t, text)
	same(t, text, tellAll(p.Fns[:2], tellFn),
		"pub f mod0 @`pub fn f` impl -1 kind -1 types [T] sig 1 [] [{[] [1]}] (&'1 T0, int)->int vars (mut x:&'1 T0, y:int)",
		"g mod0 @`fn g(self: int)` impl 0 kind -1 types [] sig 0 [] [] (int)->() vars (self:int)")
	items := n.Kids[0].Kids
	if !reflect.DeepEqual(p.Fns[0].Body, items[0].Kids[4]) || !reflect.DeepEqual(p.Fns[1].Body, items[2].Kids[2].Kids[3]) {
		t.Error(p.Fns[0].Body, p.Fns[1].Body)
	}
	for _, f := range p.Fns {
		if len(f.Env) != 0 || len(f.Code) != 0 || f.Clean != 0 {
			t.Error(f)
		}
	}
	if len(p.Drops) != 0 || p.Main != 2 {
		t.Error(p.Drops, p.Main)
	}
}

// P11: Self is what it is in a trait or an impl; elsewhere it is a name like others.
func TestSelf(t *testing.T) {
	text := "mod m { struct Self { x: int } trait A { fn f(self: Self) -> Self; } impl A for Self { fn f(self: Self) -> Self { } } fn g(x: Self) { } fn h<Self>(x: Self) { } impl<Self> A for (Self, int) { fn f(x: (Self, int)) -> (Self, int) { } } }" + mainMod
	p := program(t, text)
	var sigs []api.Sig
	for _, f := range p.Fns[:4] {
		sigs = append(sigs, f.Sig)
	}
	same(t, text, tellAll(sigs, tellSig), "0 [] [] (D1<>)->D1<>", "0 [] [] (D1<>)->()", "0 [] [{[] []}] (T0)->()", "0 [] [{[] []}] ((T0, int))->(T0, int)")
	same(t, text, tellAll(p.Traits[api.TrFirst:], tellTrait), "A mod0 @`trait A`: f 0 [] [{[] []}] (T0)->T0")
}

// P1: trees that no text has are refused, whatever they lack.
func TestTreesOfNoText(t *testing.T) {
	kinds := []int{api.Data, api.Trait, api.Impl, api.Fn, api.Use, api.EInt}
	for _, kind := range kinds {
		n := api.Node{Kids: []api.Node{{Kind: api.Mod, Name: "main", Kids: []api.Node{{Kind: kind, Name: "main", N: 3}}}}}
		if p, fault := Items(n); fault.Kind == api.OK || !reflect.DeepEqual(p, api.Program{}) {
			t.Error(kind, p, fault)
		}
	}
	if _, fault := Items(api.Node{}); fault != (api.Fault{Kind: api.ErrMain}) {
		t.Error(fault)
	}
}

// noteLists notes the lists in a value by where they begin, and answers one that has been noted already.
func noteLists(v reflect.Value, seen map[uintptr]reflect.Value) (reflect.Value, bool) {
	switch v.Kind() {
	case reflect.Struct:
		for i := range v.NumField() {
			if list, twice := noteLists(v.Field(i), seen); twice {
				return list, true
			}
		}
	case reflect.Slice:
		if v.Len() > 0 && seen[v.Pointer()].IsValid() {
			return v, true
		}
		if v.Len() > 0 {
			seen[v.Pointer()] = v
		}
		for i := range v.Len() {
			if list, twice := noteLists(v.Index(i), seen); twice {
				return list, true
			}
		}
	}
	return v, false
}

// P2: neither the tree is changed, nor hangs the answer on anything else. No list of the answer is another one, or one of the tree.
func TestItemsAnswersAlike(t *testing.T) {
	text := "mod m { struct S<'a, T> { x: &'a T } trait A { fn f(self: &Self) -> &int; } impl<'a, T: Copy> A for S<'a, T> { fn f(self: &Self) -> &int { let x: (int, Self) = (1, panic); panic } } fn g<'a: 'static, T: A + 'a>(x: S<T>, y: T) { } }" + mainMod
	n := tree(t, text)
	first, _ := Items(n)
	second, _ := Items(n)
	if !reflect.DeepEqual(first, second) || !reflect.DeepEqual(n, tree(t, text)) {
		t.Error("changed")
	}
	seen := map[uintptr]reflect.Value{}
	for _, v := range []any{n, first, second} {
		if list, twice := noteLists(reflect.ValueOf(v), seen); twice {
			t.Error(list)
		}
	}
}
