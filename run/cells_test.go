package run

import (
	"fmt"
	"strings"
	"testing"

	"holdfast/api"
)

// asksOfCells are the functions that ask for 'its cell', here of c, a reference to one.
var asksOfCells = []struct {
	kind, made, asks string
}{
	{"Cell<int>", "cell(1)", "get(c);"},
	{"Cell<int>", "cell(1)", "set(c, 5);"},
	{"RefCell<int>", "refcell(1)", "let b = borrow(c);"},
	{"RefCell<int>", "refcell(1)", "let b = borrow_mut(c);"},
	{"Mutex<int>", "mutex(1)", "let b = lock(c);"},
}

// askedOfCells looks what comes of a text in which a cell is asked, by each function. Of $ stands the type of the cell, of # one, of ? the function.
func askedOfCells(t *testing.T, text, want string) {
	t.Helper()
	for _, c := range asksOfCells {
		written := strings.NewReplacer("$", c.kind, "#", c.made, "?", c.asks).Replace(text)
		if got := tell(heldAll(t, written, program(t, "mod main { "+items+written+" }"))); got != want {
			t.Errorf("%s: %s, not %s", written, got, want)
		}
	}
}

// P29: 'its cell' is there if something stands there that is no hole. Then comes the touch, whatever it is that stands there by now.
func TestOtherThanItsCell(t *testing.T) {
	for _, other := range [][2]string{
		{"int", "2"}, {"bool", "true"}, {"(int, int)", "(2, 3)"}, {"()", "()"}, {"C", "make C { x: 1, y: 2 }"}, {"Option<int>", "Option::None"}, {"&'static int", "at(&fill(1), 0)"},
		{"Box<int>", "boxed(2)"}, {"Vec<int>", "fill(2)"}, {"Rc<int>", "rc(2)"}, {"Arc<int>", "arc(2)"}, {"Sender<int>", "chan::<int>().0"}, {"Receiver<int>", "chan::<int>().1"},
		{"fn 'static () -> int", "fn[]() -> int { 1 }"}, {"Slice<'static, int>", "view(&fill(2), 0, 1)"}, {"Ref<'static, int>", "borrow(&refcell(2))"},
		{"Cell<int>", "cell(2)"}, {"RefCell<int>", "refcell(2)"}, {"Mutex<int>", "mutex(2)"},
	} {
		askedOfCells(t, fmt.Sprintf("enum V { A($), B(%s) } fn main(n: int) -> int { let mut e = V::A(#); match e { V::A(ref c) => { e = V::B(%s); ? n }, _ => n } }", other[0], other[1]), "WrongKin")
		askedOfCells(t, fmt.Sprintf("enum V { A(int, ($, int)), B(int, (%s, int)) } fn main(n: int) -> int { let mut e = V::A(1, (#, 2)); match e { V::A(_, ref r) => { let c = &(*r).0; e = V::B(3, (%s, 4)); ? n }, _ => n } }", other[0], other[1]), "WrongKin")
	}
}

// P29: what is wrong is told with the step that did it, which counts.
func TestStepsToItsCell(t *testing.T) {
	text := "mod main { enum E { A(Cell<int>), B(int) } fn main(n: int) -> int { let mut e = E::A(cell(1)); match e { E::A(ref c) => { e = E::B(2); get(c) }, E::B(x) => x } } }"
	p := program(t, text)
	if o := held(t, text, p, 1, 1000, nil, false); o.How != api.Wrong || o.What != api.WrongKin || o.Steps != 12 {
		t.Errorf("%+v", o)
	}
	if o := held(t, text, p, 1, 11, nil, false); o.How != api.Going || o.What != api.NotWrong || o.Steps != 11 {
		t.Errorf("%+v", o)
	}
}

// P29: ahead of the touch the thing must be there, there must be such parts, and what stands there must be no hole.
func TestAheadOfItsCell(t *testing.T) {
	for _, row := range [][2]string{
		{"fn main(n: int) -> int { let k = #; let c: &$ = &k; ? 3 }", "Done 3"},
		{"enum V { A($), B } fn main(n: int) -> int { let mut e = V::A(#); match e { V::A(ref c) => { e = V::B; ? n }, _ => n } }", "WrongForm"},
		{"enum V { A(int, $), B(int) } fn main(n: int) -> int { let mut e = V::A(1, #); match e { V::A(_, ref c) => { e = V::B(2); ? n }, _ => n } }", "WrongForm"},
		{"enum V { A(($, int)), B(int) } fn main(n: int) -> int { let mut e = V::A((#, 1)); match e { V::A(ref r) => { let c = &(*r).0; e = V::B(2); ? n }, _ => n } }", "WrongForm"},
		{"fn main(n: int) -> int { let mut v = vec::<$>(); push(&mut v, #); let c = at(&v, 0); pop(&mut v); ? n }", "WrongForm"},
		{"fn main(n: int) -> int { let mut v = vec::<$>(); push(&mut v, #); let c = at(&v, 0); pop(&mut v); push(&mut v, #); ? n }", "WrongKin"},
		{"fn main(n: int) -> int { let s = (#, 2); let c = &s.0; let k = s.0; ? n }", "WrongHole"},
		{"enum V { A($), B(int) } fn main(n: int) -> int { let mut e = V::A(#); match e { V::A(ref c) => { match e { V::A(x) => { ? n }, _ => n } }, _ => n } }", "WrongHole"},
		{"fn main(n: int) -> int { let s = ((#, 1), 2); let c = &s.0.0; let k = s.0; ? n }", "WrongForm"},
		{"fn main(n: int) -> int { let k = #; let mut c = &k; { let j = #; c = &j; } ? n }", "WrongDead"},
		{"fn main(n: int) -> int { let b = boxed(#); let c = &*b; unbox(b); ? n }", "WrongDead"},
		{"fn main(n: int) -> int { let mut k = #; let c = &k; k = #; ? n }", "WrongKin"},
		{"fn main(n: int) -> int { let mut k = #; let r = &mut k; let c = &*r; *r = #; ? n }", "WrongKin"},
	} {
		askedOfCells(t, row[0], row[1])
	}
}

// P29: lock waits for a Mutex that is locked. For what stands in its place it does not wait, but is wrong.
func TestOtherThanItsMutex(t *testing.T) {
	for _, row := range [][2]string{
		{"let mut f = F::M(mutex(n)); match f { F::M(ref x) => { let g = lock(x); let h = lock(x); 0 }, _ => 0 }", "Stuck"},
		{"let mut f = F::M(mutex(n)); match f { F::M(ref x) => { f = F::M(mutex(2)); match f { F::M(ref y) => { let g = lock(y); let h = lock(x); 0 }, _ => 0 } }, _ => 0 }", "Stuck"},
		{"let mut f = F::M(mutex(n)); match f { F::M(ref x) => { f = F::C(refcell(2)); match f { F::C(ref y) => { let g = borrow(y); let h = lock(x); 0 }, _ => 0 } }, _ => 0 }", "WrongKin"},
		{"let mut f = F::M(mutex(n)); match f { F::M(ref x) => { let g = lock(x); f = F::B(2); let h = lock(x); 0 }, _ => 0 }", "WrongKin"},
		{"let mut f = F::M(mutex(n)); match f { F::M(ref x) => { out(8); f = F::B(2); lock(x); 0 }, _ => 0 }", "WrongKin [8]"},
	} {
		o := heldAll(t, row[0], program(t, within(row[0])))
		if got := tell(o); got != row[1] {
			t.Errorf("%s: %s, not %s", row[0], got, row[1])
		}
		// A lock that can be done is a meeting, wrong or not.
		if row[1] == "WrongKin [8]" && len(o.Order) != 2 {
			t.Errorf("%s: %+v", row[0], o)
		}
	}
}

// P29: another value has been put in the Mutex's place by a thread that is not seen. Kin comes ahead of a race.
func TestItsMutexRaces(t *testing.T) {
	for _, row := range [][2]string{
		{"let mut e = V::A(mutex(n)); match e { V::A(ref x) => { let h = spawn[&mut e] -> int { *e = V::B(2); 1 }; out(0); let g = lock(x); 0 }, _ => 0 }", "WrongKin [0]"},
		{"let mut e = V::A(mutex(n)); match e { V::A(ref x) => { let h = spawn[&mut e] -> int { *e = V::A(mutex(2)); 1 }; out(0); let g = lock(x); 0 }, _ => 0 }", "WrongKin [0]"},
		{"let b = boxed(mutex(n)); let h = spawn[&b] -> int { **b = mutex(2); 1 }; out(0); let g = lock(&*b); 0", "WrongRace [0]"},
	} {
		text := "mod main { enum V { A(Mutex<int>), B(int) } fn main(n: int) -> int { " + row[0] + " } }"
		p := program(t, text)
		heldAll(t, text, p)
		if got := tell(held(t, text, p, 5, 3000, []int{0, 1, 1, 1, 1, 1, 1}, false)); got != row[1] {
			t.Errorf("%s: %s, not %s", text, got, row[1])
		}
	}
}
