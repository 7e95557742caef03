package owns

import (
	"fmt"
	"reflect"
	"slices"
	"strings"
	"testing"

	"holdfast/api"
	"holdfast/scope"
)

// P22: as many instructions as there may be. Each `n;` is a local that is given at one instruction and ends at the next one.
func TestMaxCode(t *testing.T) {
	const many = 664
	p := lowered(t, "mod main { fn main(n: int) -> int { "+strings.Repeat("n;", many)+"let a: int; n } }")
	f, flow := p.Fns[0], Flow(p, 0)
	if len(f.Code) != api.MaxCode || len(flow.Paths) != many+3 {
		t.Fatal(len(f.Code), len(flow.Paths))
	}
	for n := range 2 * many {
		for local := 2; local < many+2; local++ {
			given := n == 2*(local-2)+1
			if flow.Init[n][local] != given || flow.Hole[n][local] == given || flow.Live[n][local] || flow.Drop[n][local] != given {
				t.Fatalf("local %d ahead of %d: %v %v %v", local, n, flow.Init[n][local], flow.Hole[n][local], flow.Drop[n][local])
			}
		}
		if !flow.Init[n][1] || !flow.Live[n][1] || !flow.Drop[n][1] || !flow.Hole[n][0] || flow.Live[n][0] {
			t.Fatalf("ahead of %d", n)
		}
	}
	if got := Check(p); got != (api.Fault{}) {
		t.Error(got)
	}
}

// P22: many paths of one local, of which one after the other is moved.
func TestManyPaths(t *testing.T) {
	const many = 400
	names := make([]string, many)
	for k := range names {
		names[k] = fmt.Sprintf("v%d", k)
	}
	p := lowered(t, "mod main { enum E { A("+strings.Repeat("Box<int>,", many-1)+"Box<int>) } fn f(e: E) { match e { E::A("+strings.Join(names, ",")+") => { } } }"+ending)
	f, flow := p.Fns[0], Flow(p, 0)
	if len(flow.Paths) != len(f.Vars)+many {
		t.Fatal(len(flow.Paths))
	}
	last := slices.IndexFunc(f.Code, func(i api.Instr) bool { return i.Op == api.IJump }) // out of the arm
	for k := range names {
		at := slices.IndexFunc(f.Code, func(i api.Instr) bool { return i.Op == api.IUse && f.Vars[i.To.Local].Name == names[k] })
		path := len(f.Vars) + k
		for n := range last + 1 {
			if moved := n > at; flow.Init[n][path] == moved || flow.Hole[n][path] != moved || !flow.Init[n][1] || flow.Hole[n][1] {
				t.Fatalf("part %d ahead of %d: %v %v", k, n, flow.Init[n][path], flow.Hole[n][path])
			}
		}
	}
	if got := Check(p); got != (api.Fault{}) {
		t.Error(got)
	}
}

// P22: numbers of locals around those at which sets need one more word.
func TestManyLocals(t *testing.T) {
	for _, many := range []int{61, 62, 63, 64, 65, 126, 127, 128} {
		names := ""
		for k := range many {
			names += fmt.Sprintf("let v%d: Box<int>; ", k)
		}
		text := fmt.Sprintf("mod main { fn f(y: bool) { %s if y { v%d = boxed(1); } else { v%d = boxed(2); v0 = v%d; } }%s", names, many-1, many-2, many-2, ending)
		p := lowered(t, text)
		holdCheck(t, text, p, holdFlow(t, text, p, 0))
	}
}

// P22, P23: loops and blocks as deep as trees may be.
func TestDeepLoops(t *testing.T) {
	for _, body := range []string{
		strings.Repeat("while n > 1 { let b = boxed(n); ", 30) + strings.Repeat("if n > 2 { -n; } ", 10) + strings.Repeat("}", 30) + " n",
		"let mut b = boxed(n); " + strings.Repeat("loop { if n > 1 { b = boxed(2); break; } ", 30) + strings.Repeat("}", 30) + " *b",
		"let b = boxed(n); " + strings.Repeat("loop { if n > 1 { break; } ", 30) + " let c = b; " + strings.Repeat("}", 30) + " n",
	} {
		text := "mod main { fn main(n: int) -> int { " + body + " } }"
		p := lowered(t, text)
		o := newOracle(p, p.Fns[0])
		want, got := o.there(), Flow(p, 0)
		if !reflect.DeepEqual(got.Init, want.Init) || !reflect.DeepEqual(got.Hole, want.Hole) {
			t.Errorf("%q: other paths are there", text)
		}
		holdCheck(t, text, p, o.fault(want))
	}
}

// P22: a place may have a type that is too big for any text: then something is owned there.
func TestGrownPlaces(t *testing.T) {
	p := lowered(t, "mod main { enum G<T> { X(T, Box<G<(T, T)>>), Y } fn f(mut g: G<int>, i: int) -> int { panic } fn main(n: int) -> int { n } }")
	for depth := range 12 {
		at := "g" + strings.Repeat(":0.1*", depth) + ":0.0"
		q := coded(t, p, at+" put m"+at, "_ jump#1")
		n := fnOf(q, "f")
		f, flow := q.Fns[n], Flow(q, n)
		if got := changed(f, flow, f.Clean) != "."; got != (depth > 4) {
			t.Errorf("%d steps: %v", depth, got)
		}
	}
}

// stripped is a program as one without type parameters is told: functions have no more than their code needs.
func stripped(p api.Program) (api.Program, bool) {
	out := api.Program{Datas: p.Datas}
	for _, f := range p.Fns {
		if len(f.Sig.Gens) > 0 {
			return out, false
		}
		bare := api.FnDef{Name: f.Name, At: f.At, Impl: -1, Kind: f.Kind, Env: f.Env, Clean: f.Clean, Code: slices.Clone(f.Code)}
		bare.Sig.Out = scope.Lifeless(f.Sig.Out)
		for _, in := range f.Sig.Ins {
			bare.Sig.Ins = append(bare.Sig.Ins, scope.Lifeless(in))
		}
		for _, v := range f.Vars {
			bare.Vars = append(bare.Vars, api.Local{Name: v.Name, Mut: v.Mut, Type: scope.Lifeless(v.Type)})
		}
		for n := range bare.Code {
			if bare.Code[n].Op == api.IMethod {
				bare.Code[n].Op, bare.Code[n].N, bare.Code[n].M = api.ICall, 0, 0
			}
			bare.Code[n].Types = nil
		}
		out.Fns = append(out.Fns, bare)
	}
	return out, true
}

// P22, P23: programs without type parameters, of which no more is told than what they run by.
func TestStrippedPrograms(t *testing.T) {
	const kept = "mod main { struct D { b: Box<int> } impl Drop for D { fn drop(self: &mut D) { } } trait T { fn t(self: &Self) -> int; } impl T for D { fn t(self: &D) -> int { *(*self).b } } "
	faults := map[api.Errno]int{}
	for _, body := range []string{
		"let d = make D { b: boxed(n) }; T::t(&d)",
		"let d = make D { b: boxed(n) }; let b = d.b; n",
		"let d = make D { b: boxed(n) }; let e = d; T::t(&d)",
		"let d = make D { b: boxed(n) }; d.b = boxed(1); n",
		"let d = make D { b: boxed(n) }; d = make D { b: boxed(n) }; n",
		"let mut d = make D { b: boxed(n) }; let f = fn mut[&mut d]() -> int { (*d).b = boxed(1); 1 }; n",
		"let o = Option::Some((n, boxed(n))); match o { Option::Some((k, b)) => { let c = b; k }, Option::None => 1 }",
	} {
		text := kept + "fn main(n: int) -> int { " + body + " } }"
		p := lowered(t, text)
		q, ok := stripped(p)
		if !ok {
			t.Fatal(text)
		}
		for n := range p.Fns {
			if !reflect.DeepEqual(Flow(p, n), Flow(q, n)) {
				t.Errorf("%q: function %d", text, n)
			}
		}
		if Check(p) != Check(q) {
			t.Errorf("%q: %v, not %v", text, Check(q), Check(p))
		}
		faults[Check(q).Kind]++
	}
	if len(faults) != 5 {
		t.Error(faults)
	}
}

// listsOf are where the lists of a value begin that have something in them.
func listsOf(v reflect.Value, found map[uintptr]int) {
	switch v.Kind() {
	case reflect.Slice:
		if v.Len() > 0 {
			found[v.Pointer()]++
		}
		for i := range v.Len() {
			listsOf(v.Index(i), found)
		}
	case reflect.Struct:
		for i := range v.NumField() {
			listsOf(v.Field(i), found)
		}
	}
}

// P2: what is handed in is not changed, and the answer has memory of its own, of which no two lists share any.
func TestOwnMemory(t *testing.T) {
	const text = "mod main { fn f(mut p: ((Box<int>, Box<int>), int), y: bool) -> int { if y { let a = p.0.0; p.0.0 = boxed(1); } p.1 } fn main(n: int) -> int { n } }"
	given, again := lowered(t, text), lowered(t, text)
	flow := Flow(given, 0)
	Check(given)
	if !reflect.DeepEqual(given, again) {
		t.Error("what is handed in is changed")
	}
	found := map[uintptr]int{}
	listsOf(reflect.ValueOf(flow), found)
	listsOf(reflect.ValueOf(given), found)
	for _, count := range found {
		if count > 1 {
			t.Error("two lists share memory")
		}
	}
	if !reflect.DeepEqual(flow, Flow(given, 0)) {
		t.Error("the answer hangs on something else")
	}
}

// P1: programs that no text has are answered: nothing panics.
func TestProgramsOfNoText(t *testing.T) {
	p := lowered(t, items)
	for _, n := range []int{-1, len(p.Fns), 1 << 40} {
		if flow := Flow(p, n); !reflect.DeepEqual(flow, api.Flow{}) {
			t.Error(n, flow)
		}
	}
	if got := Check(api.Program{}); got != (api.Fault{}) {
		t.Error(got)
	}
	bad := func(change func(f *api.FnDef)) {
		t.Helper()
		q := p
		q.Fns = slices.Clone(p.Fns)
		f := q.Fns[fnOf(p, "f")]
		f.Code = slices.Clone(f.Code)
		change(&f)
		q.Fns[fnOf(p, "f")] = f
		if flow := Flow(q, fnOf(p, "f")); !reflect.DeepEqual(flow, api.Flow{}) && f.Clean == p.Fns[fnOf(p, "f")].Clean {
			t.Error(flow)
		}
		if got := Check(q); got.Kind == api.OK || got.At != 0 {
			t.Error(got)
		}
	}
	bad(func(f *api.FnDef) { f.Code = nil })
	bad(func(f *api.FnDef) { f.Vars = nil })
	bad(func(f *api.FnDef) { f.Clean = -1 })
	bad(func(f *api.FnDef) { f.Clean = 10000 })
	bad(func(f *api.FnDef) { f.Code[0] = api.Instr{Op: api.IJump, N: -3} })
	bad(func(f *api.FnDef) { f.Code[0] = api.Instr{Op: api.IUse, To: api.Place{Local: 99}} })
	bad(func(f *api.FnDef) { f.Code[0] = api.Instr{Op: api.IEnd, N: 99} })
	bad(func(f *api.FnDef) { f.Code[0] = api.Instr{Op: api.IRef, From: api.Place{Local: -1}} })
	bad(func(f *api.FnDef) { f.Code = f.Code[:f.Clean-1] })
}

// P23: the document's examples.
func TestWholePrograms(t *testing.T) {
	for _, c := range []struct {
		kind  api.Errno
		items string
	}{
		{api.OK, "fn add(a: int, b: int) -> int { a + b } fn main(n: int) -> int { let x = add(n, 1); x * 2 }"},
		{api.ErrHole, "fn eat(b: Box<int>) -> int { unbox(b) } fn main(n: int) -> int { let b = boxed(n); eat(b) + eat(@b) }"},
		{api.OK, "fn main(n: int) -> int { let mut x = n; let r = &mut x; let y = x; *r = 1; y }"},
		{api.OK, "fn main(n: int) -> int { let r: &int; { let x = n; r = &x; } *r }"},
		{api.OK, "fn first<'a, 'b>(a: &'a int, b: &'b int) -> &'a int { b } fn main(n: int) -> int { let x = n; let y = 3; *first(&x, &y) }"},
		{api.OK, "struct D { v: int } impl Drop for D { fn drop(self: &mut D) { out((*self).v); } } fn f(n: int) -> int { let a = make D { v: 1 }; let b = make D { v: 2 }; let c = boxed(make D { v: 3 }); if n > 3 { panic } else { n } } fn main(n: int) -> int { let z = make D { v: 9 }; f(n) }"},
		{api.OK, "struct N { link: RefCell<Option<Rc<N>>> } fn main(n: int) -> int { let a = rc(make N { link: refcell(Option::None) }); let b = rc_clone(&a); { let mut g = borrow_mut(&(*rc_get(&a)).link); *mut_get(&mut g) = Option::Some(b); } rc_count(&a) }"},
		{api.OK, "fn main(n: int) -> int { let m = mutex(n); let g = lock(&m); let h = lock(&m); 1 }"},
		{api.OK, "fn main(n: int) -> int { let p = chan::<int>(); let q = chan::<int>(); let tx = p.0; let rx = p.1; let tx2 = q.0; let rx2 = q.1; let h = spawn[rx, tx2] -> int { let mut k = 0; loop { match recv(&rx) { Option::Some(x) => { send(&tx2, x * 2); k = k + 1; }, Option::None => break } } k }; let mut i = 0; while i < n { send(&tx, i); i = i + 1; } { let gone = tx; } let mut s = 0; loop { match recv(&rx2) { Option::Some(x) => { s = s + x; }, Option::None => break } } match join(h) { Option::Some(k) => s * 100 + k, Option::None => 0 - 1 } }"},
	} {
		text := "mod main { " + c.items + " }"
		judged(t, c.kind, text)
		p := lowered(t, strings.Replace(text, "@", "", 1))
		for n := range p.Fns {
			holdFlow(t, text, p, n)
		}
	}
}
