package mono

import (
	"reflect"
	"slices"
	"strings"
	"testing"

	"holdfast/api"
	"holdfast/owns"
)

// P28: what owns says of a function it says of its instances, whatever stands in the place of its type parameters.
func TestOwnsAgain(t *testing.T) {
	const items = "struct P<T> { a: T, b: (T, int) } struct D<T> { d: T } impl<T> Drop for D<T> { fn drop(self: &mut D<T>) { } } enum E<T> { N, C(T, T) } fn eat<T>(x: T) { } fn k<T>() -> T { panic } "
	for _, c := range []struct {
		kind api.Errno
		body string
	}{
		{api.OK, "eat(x); eat(y);"},
		{api.OK, "let z = x; x = y; eat(z);"},
		{api.OK, "let z: T; if n > 1 { z = x; } else { z = y; } eat(z);"},
		{api.OK, "let mut i = 0; while i < n { x = k(); i = i + 1; } eat(x);"},
		{api.OK, "let p = make P { a: x, b: (y, 1) }; eat(p.a); eat(p.b.0);"},
		{api.OK, "let mut p = make P { a: x, b: (y, 1) }; eat(p.a); p.a = k(); eat(p);"},
		{api.OK, "match E::C(x, y) { E::C(a, ref b) => eat(a), E::N => { } }"},
		{api.OK, "let c = fn once[x](z: T) -> (T, T) { (x, z) }; eat(c(y));"},
		{api.OK, "let r = &mut x; *r = y; let d = make D { d: r }; *d.d = k();"},
		{api.OK, "eat(if n > 1 { x } else { panic });"},
		{api.OK, "let r = replace(&mut x, y); eat(r);"},
		{api.ErrHole, "eat(x); eat(x);"},
		{api.ErrHole, "if n > 1 { eat(x); } eat(x);"},
		{api.ErrHole, "let c = fn once[x]() -> T { x }; let r = &x;"},
		{api.ErrHole, "let p = make P { a: x, b: (y, 1) }; eat(p.b.0); eat(p);"},
		{api.ErrHole, "let mut z: T; while n > 1 { z = k(); } eat(z);"},
		{api.ErrAgain, "let z = x; z = y;"},
		{api.ErrAgain, "let z: T; z = x; z = y;"},
		{api.ErrMut, "let z = x; let r = &mut z;"},
		{api.ErrMut, "let r = &x; *r = y;"},
		{api.ErrMove, "let d = make D { d: x }; eat(d.d);"},
		{api.ErrMove, "let r = &x; eat(*r);"},
		{api.ErrMove, "let b = boxed(x); eat(*b);"},
	} {
		for _, kind := range []string{"int", "Box<int>", "D<int>", "&int", "fn once(int) -> int", "P<D<bool>>"} {
			text := "mod main { " + items + "fn f<T>(mut x: T, y: T, n: int) { " + c.body + " } fn main(n: int) -> int { f::<" + kind + ">(k(), k(), n); n } }"
			p := lowered(t, text)
			q, fault := held(t, text, p)
			before, after := owns.Check(p), owns.Check(q)
			if fault.Kind != api.OK || before.Kind != c.kind || after != before {
				t.Errorf("%q: %v, %v, %v", text, fault, before, after)
			}
		}
	}
}

// P27, P28: the document's examples.
func TestWholePrograms(t *testing.T) {
	tells(t, "fn add(a: int, b: int) -> int { a + b } fn main(n: int) -> int { let x = add(n, 1); x * 2 }", "main(int)int: call1", "add(int,int)int:")
	tells(t, "fn eat(b: Box<int>) -> int { unbox(b) } fn main(n: int) -> int { let b = boxed(n); eat(b) + eat(b) }", "main(int)int: boxed<int> call1 call1", "eat(Box<int>)int: unbox<int>")
	tells(t, "struct D { v: int } impl Drop for D { fn drop(self: &mut D) { out((*self).v); } } fn f(n: int) -> int { let a = make D { v: 1 }; let b = make D { v: 2 }; let c = boxed(make D { v: 3 }); if n > 3 { panic } else { n } } fn main(n: int) -> int { let z = make D { v: 9 }; f(n) }",
		"main(int)int: make1 call2", "drop(&mut D1<>)(): out", "f(int)int: make1 make1 make1 boxed<D1<>>", "drop D1<>: 1")
	tells(t, "struct N { link: RefCell<Option<Rc<N>>> } fn main(n: int) -> int { let a = rc(make N { link: refcell(Option::None) }); let b = rc_clone(&a); { let mut g = borrow_mut(&(*rc_get(&a)).link); *mut_get(&mut g) = Option::Some(b); } rc_count(&a) }",
		"main(int)int: make0<Rc<D1<>>> refcell<D0<Rc<D1<>>>> make1 rc<D1<>> rc_clone<D1<>> rc_get<D1<>> borrow_mut<D0<Rc<D1<>>>> make0/1<Rc<D1<>>> mut_get<D0<Rc<D1<>>>> rc_count<D1<>>")
	tells(t, "fn main(n: int) -> int { let m = mutex(n); let g = lock(&m); let h = lock(&m); 1 }", "main(int)int: mutex<int> lock<int> lock<int>")
	tells(t, "fn main(n: int) -> int { let p = chan::<int>(); let q = chan::<int>(); let tx = p.0; let rx = p.1; let tx2 = q.0; let rx2 = q.1; let h = spawn[rx, tx2] -> int { let mut k = 0; loop { match recv(&rx) { Option::Some(x) => { send(&tx2, x * 2); k = k + 1; }, Option::None => break } } k }; let mut i = 0; while i < n { send(&tx, i); i = i + 1; } { let gone = tx; } let mut s = 0; loop { match recv(&rx2) { Option::Some(x) => { s = s + x; }, Option::None => break } } match join(h) { Option::Some(k) => s * 100 + k, Option::None => 0 - 1 } }",
		"main(int)int: chan<int> chan<int> spawn1 send<int> recv<int> join<int>", "thread((Receiver<int>,Sender<int>))int[Receiver<int>,Sender<int>]: recv<int> send<int>")
}

// listsOf are where the lists of a value begin that have something in them.
func listsOf(v reflect.Value, found map[uintptr]int) {
	switch v.Kind() {
	case reflect.Slice:
		if v.Len() > 0 {
			found[v.Pointer()]++
		}
		for i := range v.Len() {
			listsOf(v.Index(i), found)
		}
	case reflect.Struct:
		for i := range v.NumField() {
			listsOf(v.Field(i), found)
		}
	}
}

// P2: what is handed in is not changed, and the answer has memory of its own, of which no two lists share any.
func TestOwnMemory(t *testing.T) {
	const text = "mod main { struct D<'a, T> { d: &'a (T, T) } impl<'a, T> Drop for D<'a, T> { fn drop(self: &mut D<'a, T>) { let v = vec::<(T, &T)>(); } } trait A { fn a(self: &Self) -> Self; } impl<T: A, U: A> A for (U, T) { fn a(self: &(U, T)) -> (U, T) { (A::a(&(*self).0), A::a(&(*self).1)) } } impl A for int { fn a(self: &int) -> int { *self } } " +
		"fn f<T: A + Send>(mut x: (T, (T, T)), n: int) -> Option<(T, T)> { let d = make D { d: &x.1 }; let c = fn[&x](y: (T, int)) -> (int, T) { (1, y.0) }; c((A::a(&x.0), 2)); let r = &mut x.1; *r = (A::a(&(*r).0), A::a(&(*r).1)); spawn[] -> Option<T> { Option::None }; match Option::Some(x.1) { Option::Some(z) => Option::Some(A::a(&z)), Option::None => Option::None } } fn main(n: int) -> int { f((n, (n, n)), n); f(((n, n), ((n, n), (n, n))), n); n } }"
	given, again := lowered(t, text), lowered(t, text)
	q, fault := held(t, text, given)
	if fault.Kind != api.OK || !reflect.DeepEqual(given, again) {
		t.Fatal("what is handed in is changed", fault)
	}
	found := map[uintptr]int{}
	listsOf(reflect.ValueOf(q), found)
	many := len(found)
	listsOf(reflect.ValueOf(given), found)
	for _, count := range found {
		if count > 1 {
			t.Error("two lists share memory")
		}
	}
	if many < 300 {
		t.Error("lists:", many)
	}
	if q2, _ := Mono(again); !reflect.DeepEqual(q, q2) {
		t.Error("the answer hangs on something else")
	}
}

// P1: programs that no text has are refused, or answered: nothing panics.
func TestProgramsOfNoText(t *testing.T) {
	if q, fault := Mono(api.Program{}); fault.Kind == api.OK || len(q.Fns) > 0 {
		t.Error(q, fault)
	}
	const text = "mod main { struct D<T> { d: T } impl<T> Drop for D<T> { fn drop(self: &mut D<T>) { } } trait A { fn a(self: Self); } impl A for int { fn a(self: int) { } } fn id<T>(x: T) -> T { x } fn main(n: int) -> int { id(n); A::a(n); make D { d: 1 }; let c = fn[]() -> int { 1 }; n } }"
	bad := func(change func(p *api.Program, f *api.FnDef, code map[int]*api.Instr)) {
		t.Helper()
		p := lowered(t, text)
		f := &p.Fns[p.Main]
		code := map[int]*api.Instr{}
		for n := range f.Code {
			code[f.Code[n].Op] = &f.Code[n]
		}
		change(&p, f, code)
		q, fault := Mono(p)
		if fault.Kind == api.OK || !reflect.DeepEqual(q, api.Program{}) {
			t.Error(q, fault)
		}
	}
	for _, n := range []int{-1, 99, 1 << 40} {
		bad(func(p *api.Program, f *api.FnDef, code map[int]*api.Instr) { p.Main = n })
		for _, op := range []int{api.ICall, api.IMethod, api.IMake, api.IClos} {
			bad(func(p *api.Program, f *api.FnDef, code map[int]*api.Instr) { code[op].N = n })
		}
		bad(func(p *api.Program, f *api.FnDef, code map[int]*api.Instr) { code[api.IMethod].M = n })
		bad(func(p *api.Program, f *api.FnDef, code map[int]*api.Instr) {
			f.Vars[1].Type = api.Type{Kind: api.TyParam, N: n}
		})
		bad(func(p *api.Program, f *api.FnDef, code map[int]*api.Instr) {
			f.Vars[1].Type = api.Type{Kind: api.TyData, N: n}
		})
		bad(func(p *api.Program, f *api.FnDef, code map[int]*api.Instr) {
			f.Vars[1].Type = api.Type{Kind: n, Args: []api.Type{{Kind: n}}}
		})
	}
	bad(func(p *api.Program, f *api.FnDef, code map[int]*api.Instr) { code[api.ICall].Types = nil })
	bad(func(p *api.Program, f *api.FnDef, code map[int]*api.Instr) { code[api.IMethod].Types = nil })
	bad(func(p *api.Program, f *api.FnDef, code map[int]*api.Instr) { p.Impls, p.Traits = nil, nil })
	bad(func(p *api.Program, f *api.FnDef, code map[int]*api.Instr) { p.Datas[1].Drop = 77 })
	bad(func(p *api.Program, f *api.FnDef, code map[int]*api.Instr) { p.Datas = nil })
	bad(func(p *api.Program, f *api.FnDef, code map[int]*api.Instr) { f.Code = f.Code[:3] })
	bad(func(p *api.Program, f *api.FnDef, code map[int]*api.Instr) { f.Clean = -1 })
}

// P27: many instances of a long function.
func TestLongCode(t *testing.T) {
	const before = "mod main { fn f<A, B, C, D>(n: int) { if n > 3 { f::<B, C, D, A>(1); f::<int, B, C, D>(2); f::<bool, B, C, D>(3); f::<(), B, C, D>(4); } "
	const behind = "} fn main(n: int) -> int { f::<int, int, int, int>(n); n } }"
	const statement = "{let y=n;}"
	text := before + strings.Repeat(statement, (api.MaxText-len(before+behind))/len(statement)) + behind
	p := lowered(t, text)
	q, fault := held(t, text, p)
	if fault.Kind != api.OK || len(q.Fns) != 82 { // all lists of four of three types, and main
		t.Fatal(fault, len(q.Fns))
	}
	var numbers []int
	for _, i := range q.Fns[1].Code {
		if i.Op == api.ICall {
			numbers = append(numbers, i.N)
		}
	}
	if !slices.Equal(numbers, []int{1, 1, 2, 3}) || len(q.Fns[81].Code) < 1500 {
		t.Error(numbers, len(q.Fns[81].Code))
	}
}
