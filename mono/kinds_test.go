package mono

import (
	"fmt"
	"reflect"
	"slices"
	"testing"

	"holdfast/api"
)

// P27: ICall: an instance for each list of types, in the order in which they come up; functions that main does not need have none.
func TestCalls(t *testing.T) {
	tells(t, "fn never<T>(x: T) -> T { never(x) } fn main(n: int) -> int { n }", "main(int)int:")
	tells(t, "fn id<T>(x: T) -> T { x } fn pair<A, B>(a: A, b: B) -> (B, A) { id((b, a)) } fn main(n: int) -> int { pair(id(n), true).1 }",
		"main(int)int: call1 call2",
		"id(int)int:",
		"pair(int,bool)(bool,int): call3",
		"id((bool,int))(bool,int):")
	// What a function needs comes up when it is made, not when it is called.
	tells(t, "fn a<T>() { c::<T>(); b::<T>(); } fn b<T>() { d::<T>(); } fn c<T>() { d::<(T, T)>(); b::<T>(); } fn d<T>() { } fn main(n: int) -> int { b::<int>(); a::<bool>(); c::<int>(); n }",
		"main(int)int: call1 call2 call3",
		"b()(): call4",
		"a()(): call5 call6",
		"c()(): call7 call1",
		"d()():",
		"c()(): call8 call6",
		"b()(): call9",
		"d()():",
		"d()():",
		"d()():")
	// Main is needed by others too, and functions need themselves, with other types, too.
	tells(t, "fn turn<A, B, C>(n: int) { turn::<B, C, A>(n); main(n); } fn main(n: int) -> int { turn::<int, int, bool>(n); main(n) }",
		"main(int)int: call1 call0",
		"turn(int)(): call2 call0",
		"turn(int)(): call3 call0",
		"turn(int)(): call1 call0")
	// Code that nothing leads to is not there, so it needs nothing; code that a condition leads to does.
	tells(t, "fn a() { } fn b() { } fn main(n: int) -> int { if false { a(); } return n; b(); n }", "main(int)int: call1", "a()():")
}

// P27: two instances are one if their function and their types are the same, lifetimes aside.
func TestSameInstances(t *testing.T) {
	tells(t, "struct L<'a, T> { l: &'a T } fn f<T>(x: T) { } fn g<'a, 'b>(x: &'a int, y: &'b int, z: L<'b, int>) { f(x); f(y); f(z); f(make L { l: x }); f(&*x); } fn main(n: int) -> int { f(&n); g(&n, &n, make L { l: &n }); n }",
		"main(int)int: call1 make1<int> call2",
		"f(&int)():",
		"g(&int,&int,D1<int>)(): call1 call1 call3 make1<int> call3 call1",
		"f(D1<int>)():")
	// Neither the kind of a reference, nor which data type, type of std or kind of closure it is, nor how often something stands there, nor the order is left aside.
	q := instances(t, "struct A { } struct B { } fn f<T>() { } fn g<T, U>() { } fn main(n: int) -> int { f::<&int>(); f::<&mut int>(); f::<A>(); f::<B>(); f::<Vec<int>>(); f::<Box<int>>(); f::<fn() -> int>(); f::<fn mut() -> int>(); f::<fn(int) -> int>(); f::<()>(); f::<(int)>(); f::<((), int)>(); f::<((int, int), int)>(); f::<(int, (int, int))>(); f::<(int, int, int)>(); f::<bool>(); g::<int, bool>(); g::<bool, int>(); g::<(int, bool), int>(); g::<int, (bool, int)>(); n }")
	var want []int
	for n := range 20 {
		want = append(want, n+1)
	}
	var got []int
	for _, i := range q.Fns[0].Code {
		if i.Op == api.ICall {
			got = append(got, i.N)
		}
	}
	if !slices.Equal(got, want) {
		t.Error(got)
	}
}

// P27: IClos: the function of a closure has the types of the one around it.
func TestClosures(t *testing.T) {
	tells(t, "fn f<T, U>(x: T, u: U) { let g = fn[&x](y: U) -> int { 1 }; let h = fn mut[x, u](y: T) -> U { panic }; let i = fn once[](y: int) -> T { panic }; i(1); } fn main(n: int) -> int { f(n, true); f(true, n); f(n, true); n }",
		"main(int)int: call1 call2 call1",
		"f(int,bool)(): clos3 clos4 clos5",
		"f(bool,int)(): clos6 clos7 clos8",
		"fn(&(&int),bool)int[&int]:",
		"mut(&mut (int,bool),int)bool[int,bool]:",
		"once((),int)int:",
		"fn(&(&bool),int)int[&bool]:",
		"mut(&mut (bool,int),bool)int[bool,int]:",
		"once((),int)bool:")
	// One in another one; it may need the function around it, and that has the same number as before.
	tells(t, "fn f<T>(x: T) { let g = fn once[x]() -> int { let h = fn once[x]() -> T { f(1); f(true); x }; f(x); 2 }; } fn main(n: int) -> int { f(true); n }",
		"main(int)int: call1",
		"f(bool)(): clos2",
		"once((bool))int[bool]: clos3 call1",
		"once((bool))bool[bool]: call4 call1",
		"f(int)(): clos5",
		"once((int))int[int]: clos6 call4",
		"once((int))int[int]: call4 call1")
	// Without type parameters there is one.
	tells(t, "fn main(n: int) -> int { let f = fn[n](x: int) -> int { x + n }; f(1); f(2) }", "main(int)int: clos1", "fn(&(int),int)int[int]:")
}

// P27: ISpawn.
func TestThreads(t *testing.T) {
	tells(t, "fn f<T: Send, U>(x: T, u: U) { let h = spawn[x] -> Vec<T> { let i = fn[](y: T) -> U { panic }; panic }; join(h); } fn main(n: int) -> int { f(n, true); f(boxed(n), n); spawn[n] -> int { main(n) }; n }",
		"main(int)int: call1 boxed<int> call2 spawn3",
		"f(int,bool)(): spawn4 join<Vec<int>>",
		"f(Box<int>,int)(): spawn5 join<Vec<Box<int>>>",
		"thread((int))int[int]: call0",
		"thread((int))Vec<int>[int]: clos6",
		"thread((Box<int>))Vec<Box<int>>[Box<int>]: clos7",
		"fn(&(),int)bool:",
		"fn(&(),Box<int>)int:")
}

// P27: IMethod becomes a call of the method of an impl, with the impl's types in its order.
func TestMethods(t *testing.T) {
	const a = "trait A { fn a(self: &Self) -> int; fn b(self: Self) -> Self; } impl A for int { fn a(self: &int) -> int { 1 } fn b(self: int) -> int { self } } "
	tells(t, a+"fn main(n: int) -> int { A::b(n); A::a(&n); A::b(2) }", "main(int)int: call1 call2 call1", "b(int)int:", "a(&int)int:")
	tells(t, a+"impl<T, U: A> A for (U, Box<T>) { fn a(self: &(U, Box<T>)) -> int { let c = fn[](x: T) -> U { panic }; A::a(&(*self).0) } fn b(self: (U, Box<T>)) -> (U, Box<T>) { A::b(self.0); A::b(self) } } fn main(n: int) -> int { A::b((1, boxed(true))); A::a(&(2, boxed((n, n)))); n }",
		"main(int)int: boxed<bool> call1 boxed<(int,int)> call2",
		"b((int,Box<bool>))(int,Box<bool>): call3 call1",
		"a(&(int,Box<(int,int)>))int: clos4 call5",
		"b(int)int:",
		"fn(&(),(int,int))int:",
		"a(&int)int:")
	// Which impl it is hangs on the types of the instance; that of a reference has a lifetime of its own.
	tells(t, a+"impl<'x, T> A for &'x T { fn a(self: &&'x T) -> int { let v = vec::<T>(); 2 } fn b(self: &'x T) -> &'x T { self } } impl A for bool { fn a(self: &bool) -> int { 3 } fn b(self: bool) -> bool { f(&self); self } } fn f<T: A>(x: T) -> int { A::b(x); 1 } fn main(n: int) -> int { f(n); f(&n); f(true); f(&&n); A::a(&&true) }",
		"main(int)int: call1 call2 call3 call4 call5",
		"f(int)int: call6",
		"f(&int)int: call7",
		"f(bool)int: call8",
		"f(&&int)int: call9",
		"a(&&bool)int: vec<bool>",
		"b(int)int:",
		"b(&int)&int:",
		"b(bool)bool: call10",
		"b(&&int)&&int:",
		"f(&bool)int: call11",
		"b(&bool)&bool:")
	// Of two traits with methods of one name each has its own; a method may stand at another place than its function's number says.
	tells(t, "trait B { fn a(self: Self); fn c(self: Self); } trait A { fn c(self: Self); fn a(self: Self); } impl A for int { fn c(self: int) { } fn a(self: int) { B::c(self); } } impl B for int { fn a(self: int) { A::a(self); } fn c(self: int) { } } fn main(n: int) -> int { B::a(n); n }",
		"main(int)int: call1", "a(int)(): call2", "a(int)(): call3", "c(int)():")
}

// P27: ILib and IMake have types that are made, without lifetimes.
func TestTypes(t *testing.T) {
	tells(t, "struct L<'a, T> { l: &'a T } fn f<T>(x: &T) { let v = vec::<T>(); let w = boxed((v, 1)); let s = Option::Some(x); let n = Option::None::<L<T>>; make L { l: x }; out(1); } fn main(n: int) -> int { f(&n); f(&&n); n }",
		"main(int)int: call1 call2",
		"f(&int)(): vec<int> boxed<(Vec<int>,int)> make0/1<&int> make0<D1<int>> make1<int> out",
		"f(&&int)(): vec<&int> boxed<(Vec<&int>,int)> make0/1<&&int> make0<D1<&int>> make1<&int> out")
}

// P27: droppers, in the order in which they come up, each for a data type with types; their functions are instances.
func TestDroppers(t *testing.T) {
	tells(t, "struct D<T> { d: T } impl<T> Drop for D<T> { fn drop(self: &mut D<T>) { boxed(2); id(1); } } enum E<A, B> { N, C(B, A) } impl<X, Y> Drop for E<X, Y> { fn drop(self: &mut E<X, Y>) { make D { d: 1 }; } } struct P<T> { d: D<T> } fn id<T>(x: T) -> T { x } "+
		"fn main(n: int) -> int { id(true); let e = E::C::<int, bool>(true, 1); let f = E::N::<int, bool>; make D { d: true }; make D { d: 1 }; make P { d: make D { d: 2 } }; id(1); 1 }",
		"main(int)int: call1 make2/1<int,bool> make2<int,bool> make1<bool> make1<int> make1<int> make3<int> call5",
		"id(bool)bool:",
		"drop(&mut D2<int,bool>)(): make1<int>",
		"drop(&mut D1<bool>)(): boxed<int> call5",
		"drop(&mut D1<int>)(): boxed<int> call5",
		"id(int)int:",
		"drop D2<int,bool>: 2",
		"drop D1<bool>: 3",
		"drop D1<int>: 4")
	// Only what is made has a dropper, not each type that comes up; one is there once, whatever its lifetimes.
	tells(t, "struct D<'a, T> { d: &'a T } impl<'a, T> Drop for D<'a, T> { fn drop(self: &mut D<'a, T>) { } } fn f<'a, 'b, T>(x: &'a T, y: &'b T) -> D<'b, T> { let u: D<bool>; make D { d: x }; make D { d: y } } fn main(n: int) -> int { let m = 1; f(&n, &m); make D { d: &n }; n }",
		"main(int)int: call1 make1<int>",
		"f(&int,&int)D1<int>: make1<int> make1<int>",
		"drop(&mut D1<int>)():",
		"drop D1<int>: 2")
	// A Drop that makes what it drops; two data types with the same types; within closures, ahead of what the function needs later on.
	tells(t, "struct A<T> { a: T } impl<T> Drop for A<T> { fn drop(self: &mut A<T>) { make A { a: (1, 2) }; make A { a: 2 }; } } struct B<T> { b: T } impl<T> Drop for B<T> { fn drop(self: &mut B<T>) { } } fn g() { } fn main(n: int) -> int { let f = fn[]() -> int { make B { b: 1 }; 1 }; make A { a: n }; make B { b: n }; g(); n }",
		"main(int)int: clos1 make1<int> make2<int> call4",
		"fn(&())int: make2<int>",
		"drop(&mut D1<int>)(): make1<(int,int)> make1<int>",
		"drop(&mut D2<int>)():",
		"g()():",
		"drop(&mut D1<(int,int)>)(): make1<(int,int)> make1<int>",
		"drop D1<int>: 2",
		"drop D2<int>: 3",
		"drop D1<(int,int)>: 5")
}

// P27: what else functions and programs have: it stays, or it is zero.
func TestWhatStays(t *testing.T) {
	text := "mod other { pub struct S<'a, T> { pub s: &'a T, n: Box<S<'a, T>> } pub trait A { fn a(self: Self) -> Self; } impl A for bool { fn a(self: bool) -> bool { !self } } pub fn f<'a, 'b: 'a, T: Copy + 'a>(mut x: &'a T, s: &'b S<'b, int>) -> &'a T { let mut z = 1; while z < 3 { z = -z + 1; x = x; } let b = A::a(true); match Option::Some(*x) { Option::Some(ref y) => panic, Option::None => { } } let t = (b, z); let r = &mut z; let c = fn[t]() -> bool { t.0 }; c(); x } } " +
		"mod main { use other::f; use other::S; struct D { d: int } impl Drop for D { fn drop(self: &mut D) { } } fn k<T>() -> T { panic } fn main(n: int) -> int { make D { d: 1 }; *f(&n, k()) } }"
	p := lowered(t, text)
	q, fault := held(t, text, p)
	if fault.Kind != api.OK {
		t.Fatal(fault)
	}
	if q.Main != 0 || len(q.Mods) != 0 || len(q.Traits) != 0 || len(q.Impls) != 0 || len(q.Datas) != len(p.Datas) || fmt.Sprint(q.Datas) != fmt.Sprint(p.Datas) {
		t.Errorf("%+v", q)
	}
	if q.Datas[2].Drop != p.Datas[2].Drop || q.Datas[2].Drop < 0 {
		t.Error(q.Datas[2].Drop)
	}
	kinds := map[int]bool{}
	for _, f := range q.Fns {
		was := p.Fns[slices.IndexFunc(p.Fns, func(g api.FnDef) bool { return g.At == f.At && g.Name == f.Name })]
		if f.Mod != 0 || f.Pub || f.Impl != -1 || f.Kind != was.Kind || f.Types != nil || f.Clean != was.Clean || !reflect.DeepEqual(f.Body, api.Node{}) || len(f.Code) != len(was.Code) || len(f.Vars) != len(was.Vars) {
			t.Errorf("%+v", f)
		}
		if f.Sig.Lives != 0 || len(f.Sig.Outs) != 0 || len(f.Sig.Gens) != 0 {
			t.Errorf("%+v", f.Sig)
		}
		for n, v := range f.Vars {
			if v.Name != was.Vars[n].Name || v.Mut != was.Vars[n].Mut {
				t.Error(v)
			}
		}
		for n, i := range f.Code {
			kinds[i.Op] = true
			before := was.Code[n]
			if before.Op == api.IMethod {
				before.Op = i.Op
			}
			// Numbers and types are looked at by others.
			before.N, before.M, before.Types, i.N, i.M, i.Types = 0, 0, nil, 0, 0, nil
			if fmt.Sprint(i) != fmt.Sprint(before) {
				t.Error(i, before)
			}
		}
	}
	for _, op := range []int{api.IUse, api.IBin, api.IUn, api.IRef, api.IMut, api.ITuple, api.IMake, api.ITag, api.ICall, api.IClos, api.IInvoke, api.IEnd, api.IJump, api.IIf, api.IRet, api.IPanic, api.IResume} {
		if !kinds[op] {
			t.Error("no instruction", op)
		}
	}
}

// P27: an IPut stays one, though what stood there need not be dropped; an OpMove stays one, though its type is Copy.
func TestInstructionsStay(t *testing.T) {
	q := instances(t, "fn f<T>(mut x: T, y: T) -> T { x = y; x } fn main(n: int) -> int { f(n, 1) }")
	puts, moves := 0, 0
	for _, i := range q.Fns[1].Code {
		if i.Op == api.IPut {
			puts++
		}
		for _, arg := range i.Args {
			if arg.Kind == api.OpMove {
				moves++
			}
		}
	}
	if puts != 1 || moves != 3 {
		t.Error(puts, moves)
	}
}
