package run

import (
	"encoding/json"
	"reflect"
	"strings"
	"testing"

	"holdfast/api"
)

// P29: the document's examples, whether they pass or not.
func TestExamples(t *testing.T) {
	for _, row := range [][2]string{
		{"fn add(a: int, b: int) -> int { a + b } fn main(n: int) -> int { let x = add(n, 1); x * 2 }", "Done 12"},
		{"fn eat(b: Box<int>) -> int { unbox(b) } fn main(n: int) -> int { let b = boxed(n); eat(b) + eat(b) }", "WrongHole"},
		{"fn main(n: int) -> int { let mut x = n; let r = &mut x; let y = x; *r = 1; y }", "WrongKin"},
		{"fn main(n: int) -> int { let mut x = n; let r = &mut x; *r = 1; let y = x; y }", "Done 1"},
		{"fn main(n: int) -> int { let r: &int; { let x = n; r = &x; } *r }", "WrongDead"},
		{"fn first<'a, 'b>(a: &'a int, b: &'b int) -> &'a int { b } fn main(n: int) -> int { let x = n; let y = 3; *first(&x, &y) }", "Done 3"},
		{"struct D { v: int } impl Drop for D { fn drop(self: &mut D) { out((*self).v); } } fn f(n: int) -> int { let a = make D { v: 1 }; let b = make D { v: 2 }; let c = boxed(make D { v: 3 }); if n > 3 { panic } else { n } } fn main(n: int) -> int { let z = make D { v: 9 }; f(n) }", "Failed [3 2 1 9]"},
		{"struct N { link: RefCell<Option<Rc<N>>> } fn main(n: int) -> int { let a = rc(make N { link: refcell(Option::None) }); let b = rc_clone(&a); { let mut g = borrow_mut(&(*rc_get(&a)).link); *mut_get(&mut g) = Option::Some(b); } rc_count(&a) }", "Done 2 left 1"},
		{"fn main(n: int) -> int { let m = mutex(n); let g = lock(&m); let h = lock(&m); 1 }", "Stuck"},
		{"fn main(n: int) -> int { let p = chan::<int>(); let q = chan::<int>(); let tx = p.0; let rx = p.1; let tx2 = q.0; let rx2 = q.1; let h = spawn[rx, tx2] -> int { let mut k = 0; loop { match recv(&rx) { Option::Some(x) => { send(&tx2, x * 2); k = k + 1; }, Option::None => break } } k }; let mut i = 0; while i < n { send(&tx, i); i = i + 1; } { let gone = tx; } let mut s = 0; loop { match recv(&rx2) { Option::Some(x) => { s = s + x; }, Option::None => break } } match join(h) { Option::Some(k) => s * 100 + k, Option::None => 0 - 1 } }", "Done 2005"},
	} {
		p := program(t, "mod main { "+row[0]+" }")
		if got := tell(heldAll(t, row[0], p)); got != row[1] {
			t.Errorf("%s: %s, not %s", row[0], got, row[1])
		}
	}
}

// cloned is the same program in new memory.
func cloned(p api.Program) (out api.Program) {
	text, err := json.Marshal(p)
	if err == nil {
		err = json.Unmarshal(text, &out)
	}
	if err != nil {
		panic(err)
	}
	return out
}

// P2: a run changes no program, and answers new memory, the same each time.
func TestOwnMemory(t *testing.T) {
	body := "let a = d(1); let mut v = fill(3); push(&mut v, 7); let h = spawn[n] -> int { out(1); n }; out(2); let b = a; match join(h) { Option::Some(x) => x, Option::None => 0 }"
	p := program(t, within(body))
	was := cloned(p)
	picks := []int{0, 1, 1, 0}
	first := Run(p, 5, 1000, picks, true)
	kept := first
	kept.Outs, kept.Order = append([]int{}, first.Outs...), append([]int{}, first.Order...)
	for n := range first.Outs {
		first.Outs[n] = 77
	}
	for n := range first.Order {
		first.Order[n] = 77
	}
	if again := Run(p, 5, 1000, picks, true); !same(again, kept) {
		t.Errorf("%+v, not %+v", again, kept)
	}
	if !reflect.DeepEqual(cloned(p), was) || !reflect.DeepEqual(picks, []int{0, 1, 1, 0}) {
		t.Error("changed")
	}
}

// P1: programs that no text has are answered too.
func TestProgramsOfNoText(t *testing.T) {
	Run(api.Program{}, 1, 100, nil, false)
	p := program(t, within("let v = fill(3); let h = spawn[n] -> int { n }; let f = fn[n]() -> int { *at(&fill(2), n) }; let e = E::A(n); match e { E::A(x) => f() + x, _ => 0 }"))
	for n := range p.Fns {
		for k := range p.Fns[n].Code {
			for _, change := range []func(*api.Instr){
				func(i *api.Instr) { i.N = 99 }, func(i *api.Instr) { i.N = -3 }, func(i *api.Instr) { i.Args = nil }, func(i *api.Instr) { i.Op = 30 }, func(i *api.Instr) { i.Op = api.IMethod },
				func(i *api.Instr) { i.To.Local = 1 << 60 }, func(i *api.Instr) { i.To.Local = -1 }, func(i *api.Instr) { i.From.Steps = []api.Step{{Kind: 7}} },
				func(i *api.Instr) { i.To.Steps = []api.Step{{Kind: api.StepField, N: -1}} }, func(i *api.Instr) { i.To.Steps = []api.Step{{Kind: api.StepCase, M: -1}} },
				func(i *api.Instr) { i.Op = api.IResume }, func(i *api.Instr) { i.Op = api.IRet }, func(i *api.Instr) { i.Types = nil },
			} {
				other := cloned(p)
				change(&other.Fns[n].Code[k])
				Run(other, 5, 300, []int{1}, true)
			}
		}
	}
	p.Fns[0].Clean = 1 << 40
	Run(p, 5, 300, nil, false)
}

// P1: runs that have much to keep in mind end soon.
func TestGreatRuns(t *testing.T) {
	doubles, values := "copy struct A00 { x: int } ", "let a00 = make A00 { x: n }; "
	for n := 1; n < 60; n++ {
		of, next := word("A", n-1), word("A", n)
		doubles += "copy struct " + next + " { x: " + of + ", y: " + of + " } "
		of, name := word("a", n-1), word("a", n)
		values += "let " + name + " = make " + next + " { x: " + of + ", y: " + of + " }; "
	}
	for _, row := range [][2]string{
		// A value of 2^59 parts, most of which are the same.
		{doubles + "fn main(n: int) -> int { " + values + "let b = a59; b" + strings.Repeat(".y", 59) + ".x }", "Done 5"},
		// Calls that never return, of a function with many locals.
		{"fn f() -> int { f(); " + strings.Repeat("{let a=1;}", 300) + " 1 } fn main(n: int) -> int { f() }", "Going"},
		// Long lines of tags.
		{"fn f(r: &mut int) -> int { *r = *r + 1; f(&mut *r) } fn main(n: int) -> int { let mut x = n; f(&mut x) }", "Going"},
		{"fn main(n: int) -> int { let mut x = n; let mut r = &mut x; loop { r = &mut *r; *r = 1; } 1 }", "Going"},
		{"fn main(n: int) -> int { let c = refcell(n); let mut v = vec::<&RefCell<int>>(); let mut i = 0; while i < 300 { push(&mut v, &c); i = i + 1; } i = 0; loop { let mut g = borrow_mut(*at(&v, i % 300)); *mut_get(&mut g) = 1; i = i + 1; } 1 }", "Going"},
		// Many elements, many that wait.
		{"fn main(n: int) -> int { let mut v = vec::<int>(); loop { push(&mut v, 1); } 1 }", "Going"},
		{"fn main(n: int) -> int { let c = chan::<int>(); loop { send(&c.0, 1); } 1 }", "Going"},
		// Deep drops.
		{"struct L { n: Option<Box<L>> } fn main(n: int) -> int { let mut a = make L { n: Option::None }; let mut i = 0; while i < 500 { a = make L { n: Option::Some(boxed(a)) }; i = i + 1; } i }", "Done 500"},
	} {
		if got := tell(Run(program(t, "mod main { "+row[0]+" }"), 5, api.MaxFuel, nil, false)); got != row[1] {
			t.Errorf("%.80s: %s, not %s", row[0], got, row[1])
		}
	}
}

func word(letter string, n int) string {
	return letter + string(rune('0'+n/10)) + string(rune('0'+n%10))
}
