package run

import (
	"fmt"
	"reflect"
	"slices"
	"strings"
	"testing"

	"holdfast/api"
	"holdfast/borrow"
	"holdfast/check"
	"holdfast/lower"
	"holdfast/mono"
	"holdfast/owns"
	"holdfast/scope"
	"holdfast/syntax"
)

// made is the program of a text, and whether it passes what looks at owners and loans.
func made(text string) (p api.Program, passes bool, fault api.Fault) {
	n, fault := syntax.Parse(text)
	if fault.Kind == api.OK {
		p, fault = scope.Items(n)
	}
	if fault.Kind == api.OK {
		p, fault = check.Check(p)
	}
	if fault.Kind == api.OK {
		p, fault = lower.Lower(p)
	}
	if fault.Kind == api.OK {
		passes = owns.Check(p).Kind == api.OK && borrow.Check(p).Kind == api.OK
		p, fault = mono.Mono(p)
	}
	return p, passes, fault
}

// program is the program of a text, which has one.
func program(t *testing.T, text string) api.Program {
	t.Helper()
	p, _, fault := made(text)
	if fault.Kind != api.OK {
		t.Fatalf("%q: no program: %v: %.40q", text, fault, text[min(fault.At, len(text)):])
	}
	return p
}

// items are what the bodies of these tests may use: D tells when it is dropped, P too, and panics then if its number is above 5, Q has something to drop when it does so, R has parts that are dropped behind it.
const items = `struct D { v: int } impl Drop for D { fn drop(self: &mut D) { out((*self).v); } }
struct P { v: int } impl Drop for P { fn drop(self: &mut P) { out((*self).v); if (*self).v > 5 { panic } } }
struct R { d: D, b: Box<D> } impl Drop for R { fn drop(self: &mut R) { out(100); } }
struct N { v: int, link: RefCell<Option<Rc<N>>> }
enum E { A(int), B(Box<int>), C(D, int) }
copy struct C { x: int, y: int }
struct Q { d: D, v: int } impl Drop for Q { fn drop(self: &mut Q) { let k = d(50); if (*self).v > 5 { panic } } }
enum F { A(Cell<int>), B(int), C(RefCell<int>), G((int, int)), H(&'static int), M(Mutex<int>) }
enum L { Nil, Cons(int, Box<L>) }
fn d(n: int) -> D { make D { v: n } }
fn p(n: int) -> P { make P { v: n } }
fn eat<T>(x: T) { }
fn id<T>(x: T) -> T { x }
fn fill(n: int) -> Vec<int> { let mut v = vec::<int>(); let mut i = 0; while i < n { push(&mut v, i * 10); i = i + 1; } v }
`

func within(body string) string {
	return "mod main { " + items + "fn main(n: int) -> int { " + body + " } }"
}

var hows = []string{"Going", "Done", "Failed", "Stuck", "Aborted", "Wrong", "Full"}
var whats = []string{"", "Dead", "Hole", "Kin", "Race", "Form"}

// tell writes an outcome in short: how, what, the value, what was told, what is left.
func tell(o api.Outcome) string {
	text := hows[o.How] + whats[o.What]
	if o.Value != 0 {
		text += fmt.Sprint(" ", o.Value)
	}
	if len(o.Outs) > 0 {
		text += fmt.Sprint(" ", o.Outs)
	}
	if o.Left > 0 {
		text += fmt.Sprint(" left ", o.Left)
	}
	if o.Loose > 0 {
		text += fmt.Sprint(" loose ", o.Loose)
	}
	return text
}

// same says whether two outcomes are the same. Lists without anything in them may be nil.
func same(a, b api.Outcome) bool {
	a.Outs, b.Outs = append([]int{}, a.Outs...), append([]int{}, b.Outs...)
	a.Order, b.Order = append([]int{}, a.Order...), append([]int{}, b.Order...)
	return reflect.DeepEqual(a, b)
}

// held lets a program run, and holds what Run answers against the oracle.
func held(t *testing.T, text string, p api.Program, arg, fuel int, picks []int, fine bool) api.Outcome {
	t.Helper()
	was := slices.Clone(picks)
	got := Run(p, arg, fuel, picks, fine)
	if want := oracleRun(p, arg, fuel, picks, fine); !same(got, want) {
		t.Errorf("%s\nof %d, %d steps, picks %v, fine %v:\n%+v, not\n%+v", text, arg, fuel, picks, fine, got, want)
	}
	if !slices.Equal(was, picks) {
		t.Error("picks are changed:", was, picks)
	}
	return got
}

// heldAll lets a program run with some picks, coarse and fine, and answers the coarse run without picks.
func heldAll(t *testing.T, text string, p api.Program) api.Outcome {
	t.Helper()
	for _, picks := range [][]int{{1}, {0, 1, 2, 0, 1, 2, 1, 1, 0}, {3, 1, 0, 2, 2, 2, 1, 0, 0, 1, 3, 1}} {
		held(t, text, p, 5, 3000, picks, false)
		held(t, text, p, 5, 3000, picks, true)
	}
	held(t, text, p, 5, 3000, nil, true)
	return held(t, text, p, 5, 3000, nil, false)
}

// bodies looks what runs of main with 5 come to; each row is a body and the outcome in short.
func bodies(t *testing.T, rows [][2]string) {
	t.Helper()
	for _, row := range rows {
		text := within(row[0])
		if got := tell(heldAll(t, row[0], program(t, text))); got != row[1] {
			t.Errorf("%s: %s, not %s", row[0], got, row[1])
		}
	}
}

// ran is the outcome of a run of main with 5, without picks.
func ran(t *testing.T, body string) api.Outcome {
	t.Helper()
	return held(t, body, program(t, within(body)), 5, api.MaxFuel, nil, false)
}

// numbers are the numbers of a text.
func numbers(text string) []int {
	var out []int
	for word := range strings.FieldsSeq(text) {
		n := 0
		fmt.Sscan(word, &n)
		out = append(out, n)
	}
	return out
}
