package borrow

import (
	"fmt"
	"reflect"
	"slices"
	"strings"
	"testing"

	"holdfast/api"
)

// P25: as many instructions as there may be, of which each `&n;` is a loan that nobody uses.
func TestMaxCode(t *testing.T) {
	const many = 664
	p := lowered(t, "mod main { fn main(n: int) -> int { "+strings.Repeat("&n;", many)+"let a: int; n } }")
	f, lend := p.Fns[0], Lend(p, 0)
	if len(f.Code) != api.MaxCode || len(lend.Loans) != many || len(lend.Spans) != many+3 || len(lend.Out) != api.MaxCode {
		t.Fatal(len(f.Code), len(lend.Loans), len(lend.Spans), len(lend.Out))
	}
	for n, row := range lend.Out {
		if len(row) > 0 {
			t.Fatal(n, row)
		}
	}
	if got := Check(p); got != (api.Fault{}) {
		t.Error(got)
	}
}

// P24, P26: many loans that are out at the same time, and each of them counts.
func TestManyLoans(t *testing.T) {
	for _, many := range []int{1, 62, 63, 64, 65, 127, 128, 129, 200} {
		body := "let mut v = vec::<&int>(); let mut x = n; "
		body += strings.Repeat("push(&mut v, &n); ", many-1) + "push(&mut v, &x); "
		text := "mod main { fn main(n: int) -> int { " + body + "x = 2; len(&v) } }"
		p := lowered(t, text)
		lend, f := Lend(p, 0), p.Fns[0]
		last := slices.IndexFunc(f.Code, func(i api.Instr) bool { return i.At == strings.Index(text, "= 2;") })
		// Those of v itself are over by then.
		if len(lend.Loans) != 2*many+1 || len(lend.Out[last]) != many || lend.Out[last][many-1] != 2*many-1 {
			t.Error(many, len(lend.Loans), lend.Out[last])
		}
		if got, want := Check(p), (api.Fault{Kind: api.ErrLoan, At: strings.Index(text, "= 2;")}); got != want {
			t.Error(many, got, want)
		}
	}
}

// P25, P26: a signature with many lifetimes and type parameters, around where sets need one more word.
func TestManyUniversals(t *testing.T) {
	for _, many := range []int{2, 30, 31, 32, 33, 62, 63, 64, 65, 66, 130} {
		var lives, params, types []string
		for k := range many {
			bound := ""
			if k > 0 {
				bound = fmt.Sprintf(": 'l%d", k-1)
			}
			lives = append(lives, fmt.Sprintf("'l%d%s", k, bound))
			params = append(params, fmt.Sprintf("p%d: &'l%d int", k, k))
			types = append(types, fmt.Sprintf("T%d", k))
		}
		fn := func(out, body string) string {
			return "fn f<" + strings.Join(lives, ",") + "," + strings.Join(types, ",") + ">(" + strings.Join(params, ",") + ") -> &'l" + out + " int { " + body + " } fn main(n: int) -> int { n } }"
		}
		// Each outlives the one ahead of it, so that the last one outlives all.
		judged(t, api.OK, "mod main { "+fn("0", fmt.Sprint("p", many-1)))
		judged(t, api.ErrLives, "mod main { @"+fn(fmt.Sprint(many-1), "p0"))
		judged(t, api.ErrLives, "mod main { @"+fn(fmt.Sprint(many-1), fmt.Sprint("p", many-2)))
	}
}

// P24, P26: loops and blocks as deep as trees may be, types as big as they may be.
func TestDeep(t *testing.T) {
	bodies(t, api.OK,
		"let mut x = n; "+strings.Repeat("while n > 1 { let r = &mut x; *r = 1; ", 30)+strings.Repeat("}", 30)+" x",
		"let mut x = n; "+strings.Repeat("if n > 1 { x = 1; let r = &x; eat(r); ", 30)+strings.Repeat("}", 30)+" x",
		"let x = n; let r: "+strings.Repeat("& ", 59)+"int; x",
	)
	bodies(t, api.ErrLoan,
		"let mut x = n; let mut r = &n; "+strings.Repeat("while n > 1 { ", 30)+"r = &x; x @= 1; "+strings.Repeat("}", 30)+" *r",
		"let r: &int; "+strings.Repeat("{ ", 70)+"@{ let x = n; r = &x; } "+strings.Repeat("}", 70)+" *r",
	)
	deep := "let a0 = &n; "
	for k := 1; k < 59; k++ {
		deep += fmt.Sprintf("let a%d = &a%d; ", k, k-1)
	}
	text := "mod main { fn main(n: int) -> int { let mut n = n; " + deep + "n = 2; " + strings.Repeat("*", 59) + "a58 } }"
	p := lowered(t, text)
	if got, want := Check(p), (api.Fault{Kind: api.ErrLoan, At: strings.Index(text, "= 2;")}); got != want {
		t.Error(got, want)
	}
	// Each reference leads on by all the others.
	lend, f := Lend(p, 0), p.Fns[0]
	last := slices.IndexFunc(f.Vars, func(v api.Local) bool { return v.Name == "a58" })
	if len(lend.Spans[last]) != 59 || len(lend.Loans) != 59 {
		t.Error(len(lend.Spans[last]), len(lend.Loans))
	}
}

// P25: a data type with many lifetimes, of which a value is handed on again and again.
func TestManyLifetimes(t *testing.T) {
	const many = 200
	var lives []string
	for k := range many {
		lives = append(lives, fmt.Sprintf("'l%d", k))
	}
	p := lowered(t, "mod main { copy struct S<"+strings.Join(lives, ",")+"> { r: &'l"+fmt.Sprint(many-1)+" int } fn main(n: int) -> int { let mut x = n; let a = make S { r: &x }; "+strings.Repeat("let a = a; ", 200)+" x = 2; *a.r } }")
	lend, f := Lend(p, 0), p.Fns[0]
	last := slices.IndexFunc(f.Code, func(i api.Instr) bool { return i.Op == api.IUse && len(i.Args[0].Place.Steps) > 0 })
	for n, v := range f.Vars {
		if v.Name != "a" {
			continue
		}
		if len(lend.Spans[n]) != many || !slices.Contains(lend.Spans[n][many-1], last) || !slices.Contains(lend.Spans[n][0], last) {
			t.Fatal(n, len(lend.Spans[n]))
		}
	}
	if got := Check(p); got.Kind != api.ErrLoan {
		t.Error(got)
	}
}

// listsOf are where the lists of a value begin that have something in them.
func listsOf(v reflect.Value, found map[uintptr]int) {
	switch v.Kind() {
	case reflect.Slice:
		if v.Len() > 0 {
			found[v.Pointer()]++
		}
		for i := range v.Len() {
			listsOf(v.Index(i), found)
		}
	case reflect.Struct:
		for i := range v.NumField() {
			listsOf(v.Field(i), found)
		}
	}
}

// P2: what is handed in is not changed, and the answer has memory of its own, of which no two lists share any.
func TestOwnMemory(t *testing.T) {
	text := before + "let mut p = (n, (n, n)); let r = &mut p.1.0; let s = &mut *r; let k = make K { r: s }; let f = fn[&p]() -> int { 1 }; n" + behind
	given, fault := made(text)
	again, _ := made(text)
	if fault.Kind != api.OK {
		t.Fatal(fault)
	}
	lend := Lend(given, given.Main)
	Check(given)
	if !reflect.DeepEqual(given, again) {
		t.Error("what is handed in is changed")
	}
	found := map[uintptr]int{}
	listsOf(reflect.ValueOf(lend), found)
	listsOf(reflect.ValueOf(given.Fns), found)
	for _, count := range found {
		if count > 1 {
			t.Error("two lists share memory")
		}
	}
	if !reflect.DeepEqual(lend, Lend(given, given.Main)) || Check(given) != Check(again) {
		t.Error("the answer hangs on something else")
	}
}

// P1: programs that no text has are answered: nothing panics.
func TestProgramsOfNoText(t *testing.T) {
	p := lowered(t, before+"let mut x = n; let r = big(&x, &n); let p = (r, n); *p.0"+behind)
	for _, n := range []int{-1, len(p.Fns), 1 << 40} {
		if lend := Lend(p, n); !reflect.DeepEqual(lend, api.Lend{}) {
			t.Error(n, lend)
		}
	}
	if got := Check(api.Program{}); got != (api.Fault{}) {
		t.Error(got)
	}
	bad := func(change func(f *api.FnDef)) {
		t.Helper()
		q := p
		q.Fns = slices.Clone(p.Fns)
		f := q.Fns[p.Main]
		f.Code, f.Vars = slices.Clone(f.Code), slices.Clone(f.Vars)
		change(&f)
		q.Fns[p.Main] = f
		if lend := Lend(q, p.Main); !reflect.DeepEqual(lend, api.Lend{}) {
			t.Error(lend)
		}
		if got := Check(q); got != (api.Fault{Kind: api.ErrSyntax}) {
			t.Error(got)
		}
	}
	bad(func(f *api.FnDef) { f.Vars = nil })
	bad(func(f *api.FnDef) { f.Code = f.Code[:f.Clean-1] })
	bad(func(f *api.FnDef) { f.Code[0] = api.Instr{Op: api.IJump, N: -3} })
	bad(func(f *api.FnDef) { f.Code[0] = api.Instr{Op: 99} })
	bad(func(f *api.FnDef) { f.Code[0] = api.Instr{Op: api.IUse, To: api.Place{Local: 99}} })
	bad(func(f *api.FnDef) { f.Code[0] = api.Instr{Op: api.IUse, To: api.Place{Local: 1}} })
	bad(func(f *api.FnDef) { f.Code[0] = api.Instr{Op: api.IRef, From: api.Place{Local: -1}} })
	bad(func(f *api.FnDef) { f.Code[0].To.Steps = []api.Step{{Kind: api.StepField, N: 7}} })
	bad(func(f *api.FnDef) { f.Vars[1].Type = api.Type{Kind: api.TyData, N: 99} })
	bad(func(f *api.FnDef) {
		f.Sig.Out = api.Type{Kind: api.TyRef, Lives: []int{7}, Args: []api.Type{{Kind: api.TyInt}}}
	})
}

// P26: the document's examples.
func TestWholePrograms(t *testing.T) {
	for _, c := range []struct {
		kind  api.Errno
		items string
	}{
		{api.OK, "fn add(a: int, b: int) -> int { a + b } fn main(n: int) -> int { let x = add(n, 1); x * 2 }"},
		{api.ErrLoan, "fn main(n: int) -> int { let mut x = n; let r = &mut x; let y = @x; *r = 1; y }"},
		{api.OK, "fn main(n: int) -> int { let mut x = n; let r = &mut x; *r = 1; let y = x; y }"},
		{api.ErrLoan, "fn main(n: int) -> int { let r: &int; @{ let x = n; r = &x; } *r }"},
		{api.ErrLives, "@fn first<'a, 'b>(a: &'a int, b: &'b int) -> &'a int { b } fn main(n: int) -> int { let x = n; let y = 3; *first(&x, &y) }"},
		{api.OK, "struct D { v: int } impl Drop for D { fn drop(self: &mut D) { out((*self).v); } } fn f(n: int) -> int { let a = make D { v: 1 }; let b = make D { v: 2 }; let c = boxed(make D { v: 3 }); if n > 3 { panic } else { n } } fn main(n: int) -> int { let z = make D { v: 9 }; f(n) }"},
		{api.OK, "struct N { link: RefCell<Option<Rc<N>>> } fn main(n: int) -> int { let a = rc(make N { link: refcell(Option::None) }); let b = rc_clone(&a); { let mut g = borrow_mut(&(*rc_get(&a)).link); *mut_get(&mut g) = Option::Some(b); } rc_count(&a) }"},
		{api.OK, "fn main(n: int) -> int { let m = mutex(n); let g = lock(&m); let h = lock(&m); 1 }"},
		{api.OK, "fn main(n: int) -> int { let p = chan::<int>(); let q = chan::<int>(); let tx = p.0; let rx = p.1; let tx2 = q.0; let rx2 = q.1; let h = spawn[rx, tx2] -> int { let mut k = 0; loop { match recv(&rx) { Option::Some(x) => { send(&tx2, x * 2); k = k + 1; }, Option::None => break } } k }; let mut i = 0; while i < n { send(&tx, i); i = i + 1; } { let gone = tx; } let mut s = 0; loop { match recv(&rx2) { Option::Some(x) => { s = s + x; }, Option::None => break } } match join(h) { Option::Some(k) => s * 100 + k, Option::None => 0 - 1 } }"},
	} {
		judged(t, c.kind, "mod main { "+c.items+" }")
	}
}

// P26: of several faults the first one by the code, loans ahead of lifetimes; of several functions the first one by its number.
func TestFirstFault(t *testing.T) {
	bodies(t, api.ErrLoan,
		"let mut x = n; let r = &mut x; let y = @x; x = 2; *r",
		"let mut x = n; let r = &x; if n > 1 { x @= 2; } else { x = 3; } *r",
		"let mut x = n; let r = &x; let s: &int; x @= 2; { let y = n; s = &y; } *r + *s",
		"let mut x = n; let f = fn[]() -> int { let mut y = 1; let r = &y; y = 2; *r }; let r = &x; x @= 2; *r",
	)
	const ending = " fn main(n: int) -> int { n } }"
	judged(t, api.ErrLoan, "mod main { fn f<'a, 'b>(x: &'a int, y: &'b int) -> &'a int { let mut z = 1; let r = &z; z @= 2; eat(r); y } fn eat(x: &int) { }"+ending)
	judged(t, api.ErrLoan, "mod main { fn f<'a, 'b>(x: &'a int, y: &'b int) -> &'a int { let mut z = 1; let r = &z; z @= 2; eat(r); x } fn eat(x: &int) { } fn g<'a, 'b>(x: &'a int, y: &'b int) -> &'a int { y }"+ending)
	judged(t, api.ErrLives, "mod main { @fn g<'a, 'b>(x: &'a int, y: &'b int) -> &'a int { y } fn f() -> int { let mut z = 1; let r = &z; z = 2; *r }"+ending)
	judged(t, api.ErrLives, "mod main { @fn f<'a, 'b>(x: &'a int, y: &'b int) -> &'a int { fn[]() -> int { let mut z = 1; let r = &z; z = 2; *r }; y }"+ending)
	judged(t, api.ErrLives, "mod main { trait T { fn t(self: &Self, x: &int) -> &int; } impl T for int { @fn t(self: &int, x: &int) -> &int { x } } fn f<'a, 'b>(x: &'a int, y: &'b int) -> &'a int { y }"+ending)
}
