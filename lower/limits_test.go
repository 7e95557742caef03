package lower

import (
	"reflect"
	"strings"
	"testing"

	"holdfast/api"
)

// refuses looks whether a text is refused: a `@`, which is taken out first, stands at the place of the fault.
func refuses(t *testing.T, kind api.Errno, marked string) {
	t.Helper()
	good, rest, found := strings.Cut(marked, "@")
	if !found {
		t.Fatalf("%q: one place has to be marked", marked)
	}
	want := api.Fault{Kind: kind, At: len(good)}
	p, fault := Lower(typed(t, good+rest))
	if fault != want || !reflect.DeepEqual(p, api.Program{}) {
		t.Errorf("%.300q: %v, not %v", marked, fault, want)
	}
}

// P19: a function has at most MaxCode instructions, those behind Clean too.
func TestMaxCode(t *testing.T) {
	// Each `n;` is an IUse and an IEnd, and one more behind Clean; a `let` without a value two IEnds; all else 6.
	most := strings.Repeat("n;", 664) + "let a: int; n"
	p := lowered(t, "mod main { fn main(n: int) -> int { "+most+" } }")
	if f := p.Fns[0]; len(f.Code) != api.MaxCode {
		t.Errorf("%d instructions", len(f.Code))
	}
	holdCode(t, "as many as there may be", p)
	refuses(t, api.ErrMany, "mod main { @fn main(n: int) -> int { "+strings.Repeat("n;", 665)+"n } }")
	refuses(t, api.ErrMany, "mod main { @fn main(n: int) -> int { "+most+"; n } }")
	// Only those behind Clean are too many here: locals for which there is nothing else.
	p = lowered(t, "mod main { fn main(n: int) -> int { "+strings.Repeat("let a: (); ", 500)+"panic } }")
	if f := p.Fns[0]; len(f.Code) != 504 || f.Clean != 1 {
		t.Errorf("%d instructions", len(f.Code))
	}
	// What leads out of many locals is more than a text is long.
	refuses(t, api.ErrMany, "mod main { @fn main(n: int) -> int { "+strings.Repeat("let a = 1; ", 200)+strings.Repeat("if n == 1 { return 2; } ", 100)+" n } }")
	refuses(t, api.ErrMany, "mod main { @fn main(n: int) -> int { loop { "+strings.Repeat("let a = 1; ", 200)+strings.Repeat("if n == 1 { break; } ", 100)+" } n } }")
}

// P19: the first function by its number counts; those of closures stand behind the text's own.
func TestFirstLongFunction(t *testing.T) {
	long := strings.Repeat("n;", 700)
	refuses(t, api.ErrMany, "mod main { fn f(n: int) { n; } @fn g(n: int) { "+long+" } fn h(n: int) { "+long+" } fn main(n: int) -> int { n } }")
	refuses(t, api.ErrMany, "mod main { fn f(n: int) { fn[n]() { "+long+" }; } @fn g(n: int) { "+long+" } fn main(n: int) -> int { n } }")
	refuses(t, api.ErrMany, "mod main { fn f(n: int) { n; @fn[n]() { "+long+" }; } fn main(n: int) -> int { n } }")
	refuses(t, api.ErrMany, "mod main { fn f(n: int) { spawn[n] -> int { @fn[n]() { "+long+" }; 1 }; } fn main(n: int) -> int { n } }")
	refuses(t, api.ErrMany, "mod main { fn f(n: int) { @spawn[n] -> int { "+long+" 1 }; } fn main(n: int) -> int { n } }")
	refuses(t, api.ErrMany, "mod main { struct D { x: int } impl Drop for D { @fn drop(self: &mut D) { let n = 1; "+long+" } } fn main(n: int) -> int { n } }")
}

// P19: bodies may be as deep as trees, and what cannot come about may be as long as texts.
func TestDeepAndLongBodies(t *testing.T) {
	depth := api.MaxDepth - 6
	for _, block := range []string{strings.Repeat("-", depth) + "n", strings.Repeat("{ ", depth) + "n" + strings.Repeat(" }", depth), "return n; " + strings.Repeat("n;", 2000) + " n", "loop { " + strings.Repeat("n;", 300) + "next; " + strings.Repeat("break;", 600) + " } n"} {
		text := "mod main { fn main(n: int) -> int { " + block + " } }"
		holdCode(t, text, lowered(t, text))
	}
}

// P19: all but Vars, Body, Code and Clean of functions stays.
func TestRestStays(t *testing.T) {
	given := typed(t, inMain("struct D<'a, T> { a: &'a T } impl<'a, T> Drop for D<'a, T> { fn drop(self: &mut Self) { } } impl T1 for int { fn t(self: &int, x: int) -> int { x } fn u(self: int) -> int { self } } pub fn f<'a, 'b: 'a, T: T1 + Copy + 'a>(x: &'a T, y: &'b int) -> &'a int { let c = fn[x, &y](z: int) -> bool { true }; y }"))
	p, fault := Lower(given)
	if fault != (api.Fault{}) {
		t.Fatal(fault)
	}
	for i, f := range p.Fns {
		own := given.Fns[i]
		if !reflect.DeepEqual(f.Vars[1:len(own.Sig.Ins)+1], own.Vars[:len(own.Sig.Ins)]) || !reflect.DeepEqual(f.Vars[0], api.Local{Mut: true, Type: own.Sig.Out}) {
			t.Errorf("%q: %s", f.Name, tellVars(f.Vars))
		}
		if !reflect.DeepEqual(f.Body, api.Node{}) {
			t.Errorf("%q has a body", f.Name)
		}
		p.Fns[i].Vars, p.Fns[i].Code, p.Fns[i].Clean = nil, nil, 0
		given.Fns[i].Vars, given.Fns[i].Body = nil, api.Node{}
	}
	if !reflect.DeepEqual(p, given) {
		t.Errorf("%v\nnot\n%v", p, given)
	}
}

// spoil writes over all that a value leads to, and answers how many lists there are.
func spoil(v reflect.Value) int {
	lists := 0
	switch v.Kind() {
	case reflect.Slice:
		lists++
		for i := range v.Len() {
			lists += spoil(v.Index(i))
		}
	case reflect.Struct:
		for i := range v.NumField() {
			lists += spoil(v.Field(i))
		}
	case reflect.Int:
		v.SetInt(v.Int() + 1)
	}
	return lists
}

// lists are where the lists of a value begin that have something in them.
func lists(v reflect.Value, found map[uintptr]int) {
	switch v.Kind() {
	case reflect.Slice:
		if v.Len() > 0 {
			found[v.Pointer()]++
		}
		for i := range v.Len() {
			lists(v.Index(i), found)
		}
	case reflect.Struct:
		for i := range v.NumField() {
			lists(v.Field(i), found)
		}
	}
}

// P2: what is handed in is not changed, and the answer has memory of its own, of which no two lists share any.
func TestOwnMemory(t *testing.T) {
	const items = "fn f<T: Copy>(e: E, p: (int, (T, Box<int>)), c: fn(int) -> bool, q: &mut (E, int)) -> int { match (*q).0 { E::A => { (*q).1 = 2; }, E::B(2, _) => { }, E::B(ref z, _) => { }, ref mut w => { } } match e { E::B(7, true) => 1, E::B(mut x, _) => { let d = fn mut[&mut x, p]() -> int { *x }; d() + d() }, E::C(ref b) => { spawn[] -> Option<int> { Option::None }; **b }, _ => { c(1); make S { a: (1, 2), b: 3 }.b } } }"
	given, again := typed(t, inMain(items)), typed(t, inMain(items))
	p, _ := Lower(given)
	if !reflect.DeepEqual(given, again) {
		t.Error("what is handed in is changed")
	}
	found := map[uintptr]int{}
	lists(reflect.ValueOf(p), found)
	for _, count := range found {
		if count > 1 {
			t.Error("two lists share memory")
		}
	}
	if spoil(reflect.ValueOf(&p).Elem()) < 100 || !reflect.DeepEqual(given, again) {
		t.Error("the answer shares memory with what is handed in")
	}
	if p, _ := Lower(given); !reflect.DeepEqual(p, lowered(t, inMain(items))) {
		t.Error("the answer hangs on something else")
	}
}

// P1: programs that no text has are refused, or answered: nothing panics.
func TestProgramsOfNoText(t *testing.T) {
	lost := typed(t, inMain(""))
	lost.Fns[0].Body = api.Node{Kind: api.EBlock, N: 1, Kids: []api.Node{{Kind: api.EVar, N: 99}}}
	for _, p := range []api.Program{{Fns: make([]api.FnDef, 1), Main: 5}, lost} {
		if made, fault := Lower(p); fault.Kind != api.OK && !reflect.DeepEqual(made, api.Program{}) {
			t.Error(made, fault)
		}
	}
	if _, fault := Lower(lost); fault.Kind == api.OK {
		t.Error("a variable that is not there has code")
	}
	if Owns(api.Program{}, nil, api.Type{Kind: api.TyData, N: 3}) || Owns(lost, nil, api.Type{Kind: api.TyData, N: -1}) {
		t.Error("a type that is not there owns something")
	}
}

// P19, P21: the document's examples have code.
func TestWholePrograms(t *testing.T) {
	for _, items := range []string{
		"fn add(a: int, b: int) -> int { a + b } fn main(n: int) -> int { let x = add(n, 1); x * 2 }",
		"fn eat(b: Box<int>) -> int { unbox(b) } fn main(n: int) -> int { let b = boxed(n); eat(b) + eat(b) }",
		"fn main(n: int) -> int { let mut x = n; let r = &mut x; let y = x; *r = 1; y }",
		"fn main(n: int) -> int { let r: &int; { let x = n; r = &x; } *r }",
		"fn first<'a, 'b>(a: &'a int, b: &'b int) -> &'a int { b } fn main(n: int) -> int { let x = n; let y = 3; *first(&x, &y) }",
		"struct D { v: int } impl Drop for D { fn drop(self: &mut D) { out((*self).v); } } fn f(n: int) -> int { let a = make D { v: 1 }; let b = make D { v: 2 }; let c = boxed(make D { v: 3 }); if n > 3 { panic } else { n } } fn main(n: int) -> int { let z = make D { v: 9 }; f(n) }",
		"struct N { link: RefCell<Option<Rc<N>>> } fn main(n: int) -> int { let a = rc(make N { link: refcell(Option::None) }); let b = rc_clone(&a); { let mut g = borrow_mut(&(*rc_get(&a)).link); *mut_get(&mut g) = Option::Some(b); } rc_count(&a) }",
		"fn main(n: int) -> int { let m = mutex(n); let g = lock(&m); let h = lock(&m); 1 }",
		"fn main(n: int) -> int { let p = chan::<int>(); let q = chan::<int>(); let tx = p.0; let rx = p.1; let tx2 = q.0; let rx2 = q.1; let h = spawn[rx, tx2] -> int { let mut k = 0; loop { match recv(&rx) { Option::Some(x) => { send(&tx2, x * 2); k = k + 1; }, Option::None => break } } k }; let mut i = 0; while i < n { send(&tx, i); i = i + 1; } { let gone = tx; } let mut s = 0; loop { match recv(&rx2) { Option::Some(x) => { s = s + x; }, Option::None => break } } match join(h) { Option::Some(k) => s * 100 + k, Option::None => 0 - 1 } }",
	} {
		text := "mod main { " + items + " }"
		holdCode(t, text, lowered(t, text))
	}
}
