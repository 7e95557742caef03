package emit

import (
	"fmt"
	"math/rand"
	"slices"
	"strings"
	"testing"

	"holdfast/api"
	"holdfast/holdfast"
	"holdfast/machine"
	"holdfast/run"
	"holdfast/scope"
)

var hows = []string{"Going", "Done", "Failed", "Stuck", "Aborted", "Wrong", "Full", "NoRoom", "Deep", "Broken"}

// tell writes an outcome in short: how, the value, what was told, whether something is left.
func tell(o api.Outcome) string {
	text := hows[o.How]
	if o.Value != 0 {
		text += fmt.Sprint(" ", o.Value)
	}
	if len(o.Outs) > 0 {
		text += fmt.Sprint(" ", o.Outs)
	}
	if o.Left > 0 {
		text += " left"
	}
	return text
}

// Things that tell when they are dropped: D, P, which panics beyond 5, Z, which weighs nothing, and W, which weighs 20.
const head = `struct D { v: int } impl Drop for D { fn drop(self: &mut D) { out((*self).v); } } fn d(n: int) -> D { make D { v: n } }
struct P { v: int } impl Drop for P { fn drop(self: &mut P) { out((*self).v); if (*self).v > 5 { panic } } } fn p(n: int) -> P { make P { v: n } }
struct Z { } impl Drop for Z { fn drop(self: &mut Z) { out(77); } } fn z() -> Z { make Z { } }
copy struct I { a: (int, int, int), b: (int, int, int), c: (int, int, int) } fn i(n: int) -> I { make I { a: (n, n + 1, n + 2), b: (n + 3, n + 4, n + 5), c: (n + 6, n + 7, n + 8) } }
struct W { x: I, d: D, y: I, k: int } fn w(n: int) -> W { make W { x: i(n), d: d(n), y: i(n * 10), k: n * 100 } } fn sum(w: &W) -> int { (*w).x.a.0 + (*w).x.c.2 + (*w).d.v + (*w).y.b.1 + (*w).y.c.2 + (*w).k }
fn eat<T>(x: T) { } fn same<T>(x: T) -> T { x } fn or<T>(o: Option<T>, x: T) -> T { match o { Option::Some(y) => y, Option::None => x } }
fn fill(n: int) -> Vec<int> { let mut v = vec::<int>(); let mut i = 0; while i < n { push(&mut v, i * 10); i = i + 1; } v }
`

// whole is the text of some items, beside those above. A body alone is main's.
func whole(items string) string {
	if strings.HasPrefix(items, "mod ") {
		return items
	}
	if !strings.Contains(items, "fn main(") {
		items = "fn main(n: int) -> int { " + items + " }"
	}
	return "mod main { " + head + items + " }"
}

// loaded is the program of a text that passes.
func loaded(t *testing.T, text string) api.Program {
	t.Helper()
	p, fault := holdfast.Load(text)
	if fault.Kind != api.OK {
		t.Fatalf("%s: %v %.30q", text, fault, text[fault.At:])
	}
	return p
}

// compiled is the program of a text that passes, and its code.
func compiled(t *testing.T, text string) (api.Program, []api.Ins) {
	t.Helper()
	p := loaded(t, text)
	code, fault := Emit(p)
	if fault.Kind != api.OK || len(code) == 0 {
		t.Fatalf("%s: %v", text, fault)
	}
	return p, code
}

// weigh is what a type weighs, by the chapter's words alone.
func weigh(p api.Program, t api.Type) int {
	sum := 0
	switch t.Kind {
	case api.TyTuple:
		for _, arg := range t.Args {
			sum += weigh(p, arg)
		}
		return sum
	case api.TyData:
		d := p.Datas[t.N]
		for _, variant := range d.Cases {
			most := 0
			for _, part := range variant.Parts {
				most += weigh(p, scope.Subst(part.Type, t.Args))
			}
			sum = max(sum, most)
		}
		if d.Enum {
			sum++
		}
		return sum
	case api.TyLib:
		switch t.N {
		case api.LyVec:
			return 3
		case api.LySlice, api.LySliceMut:
			return 2
		case api.LyCell:
			return weigh(p, t.Args[0])
		case api.LyRefCell, api.LyMutex:
			return 1 + weigh(p, t.Args[0])
		}
	}
	return 1
}

// tooWide is the fault of a program that has a local of too many words (P38).
func tooWide(p api.Program) api.Fault {
	for _, f := range p.Fns {
		for _, v := range f.Vars {
			if weigh(p, v.Type) > api.MaxWords {
				return api.Fault{Kind: api.ErrMany, At: f.At}
			}
		}
	}
	return api.Fault{}
}

func partsOf(t api.Type) int {
	sum := 1
	for _, arg := range t.Args {
		sum += partsOf(arg)
	}
	return sum
}

// isSmall says whether a program is within the chapter's bounds, steps aside.
func isSmall(p api.Program) bool {
	return !slices.ContainsFunc(p.Fns, func(f api.FnDef) bool {
		return len(f.Vars) > 100 || slices.ContainsFunc(f.Vars, func(v api.Local) bool {
			return partsOf(v.Type) > 12 || weigh(p, v.Type) > 8
		})
	})
}

// seen counts what runs have come to, so that a test can say that there was something to see.
type seen map[string]int

// hold holds the compiled run against the source's run (P39), and answers the latter.
func (s seen) hold(t *testing.T, text string, p api.Program, code []api.Ins, arg int, picks []int) api.Outcome {
	t.Helper()
	a := run.Run(p, arg, api.MaxFuel, picks, false)
	b := machine.Run(code, arg, api.MaxMachine, picks)
	s[hows[a.How]]++
	if slices.Max(append(a.Order, 0)) > 0 {
		s["threads"]++
	}
	if b.How == api.Broken {
		t.Errorf("%s: of %d, picks %v: %+v", text, arg, picks, b)
	}
	if a.How == api.Going {
		return a
	}
	if b.How == api.Going || b.How == api.NoRoom || b.How == api.Deep {
		s["cut off"]++
		if a.Steps <= 1000 && isSmall(p) {
			t.Errorf("%s: of %d, picks %v: %+v, not %+v", text, arg, picks, b, a)
		}
		return a
	}
	if a.How != b.How || a.Value != b.Value || !slices.Equal(a.Outs, b.Outs) || !slices.Equal(a.Order, b.Order) || (a.Left == 0) != (b.Left == 0) {
		t.Errorf("%s: of %d, picks %v: %+v, not %+v", text, arg, picks, b, a)
	}
	if a.Left > 0 {
		s["left"]++
	}
	s["held"]++
	return a
}

// randomPicks let one thread go on at some meetings, then another one.
func randomPicks(r *rand.Rand) []int {
	var picks []int
	threads, times := 1+r.Intn(5), []int{1, 2, 10}[r.Intn(3)]
	for range r.Intn(100) {
		pick := r.Intn(threads + 1)
		for range 1 + r.Intn(times) {
			picks = append(picks, pick)
		}
	}
	return picks
}

// held holds the runs of a text, with many arguments and picks, against the source's, and answers what comes of 5 without picks.
func (s seen) held(t *testing.T, text string) string {
	t.Helper()
	p, code := compiled(t, text)
	r := rand.New(rand.NewSource(1))
	for _, arg := range []int{-1, 0, 1, 2, 3, 6, 9} {
		s.hold(t, text, p, code, arg, nil)
		s.hold(t, text, p, code, arg, randomPicks(r))
	}
	for _, picks := range [][]int{{1, 1, 1, 1, 1, 1, 1, 1}, {0, 1, 2, 3, 0, 1, 2, 3, 0, 1, 2, 3}, {9, 9, 9, 9, 9, 9, 9}, {-1, 5}, randomPicks(r)} {
		s.hold(t, text, p, code, 5, picks)
	}
	return tell(s.hold(t, text, p, code, 5, nil))
}

// rows hold texts, or bodies of main, against the source's runs, and what comes of 5 against what is told.
func rows(t *testing.T, all [][2]string) {
	t.Helper()
	for _, row := range all {
		text := whole(row[0])
		if got := (seen{}).held(t, text); got != row[1] {
			t.Errorf("%s: %s, not %s", row[0], got, row[1])
		}
		if got := (seen{}).held(t, strings.Replace(text, mainHead, mainHead+dirt, 1)); got != row[1] {
			t.Errorf("%s, where other things have been: %s, not %s", row[0], got, row[1])
		}
	}
}

const mainHead = "fn main(n: int) -> int { "

// dirt leaves words that are not 0 in blocks and frames that are used again.
const dirt = "eat(fill(40)); eat((i(7), i(8), i(9), i(10), i(11), i(12), i(13))); eat(boxed(i(7))); "

// enough says whether each of some things has been seen so many times.
func (s seen) enough(t *testing.T, times int, names ...string) {
	t.Helper()
	for _, name := range names {
		if s[name] < times {
			t.Errorf("%s only %d times: %v", name, s[name], s)
		}
	}
}
