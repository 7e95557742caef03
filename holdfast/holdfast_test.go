package holdfast

import (
	"fmt"
	"math"
	"math/rand"
	"reflect"
	"strings"
	"testing"

	"holdfast/api"
	"holdfast/lexer"
	"holdfast/run"
	"holdfast/syntax"
)

// P30: the faults of each layer, at @, by Load and Run, and by Trust too, unless it is one of owners or loans.
func TestFaults(t *testing.T) {
	for _, row := range []struct {
		text string
		kind api.Errno
	}{
		// Tokens and trees.
		{"@" + strings.Repeat(" ", api.MaxText+1), api.ErrLong},
		{"mod main { fn main(n: int) -> int { n @$ } }", api.ErrByte},
		{"mod main { fn main(n: int) -> int { @abcdefghijklmnopqrstu } }", api.ErrToken},
		{"mod main { fn main(n: int) -> int { @99999999999999999999 } }", api.ErrToken},
		{"mod main { fn main(n: int) -> int { n @n } }", api.ErrSyntax},
		{"mod main { fn main(n: int) -> int { n }@", api.ErrSyntax},
		{"mod main { fn main(n: int) -> int { " + strings.Repeat("-", 76) + " @n } }", api.ErrDeep},
		// Items.
		{"mod main { fn main(n: int) -> int { n } @fn main(n: int) -> int { n } }", api.ErrTwice},
		{"mod main { fn main(n: int) -> int { n } struct S { x: @Nope } }", api.ErrName},
		{"mod a { fn f() { } } mod main { @use a::f; fn main(n: int) -> int { n } }", api.ErrPrivate},
		{"mod main { fn main(n: int) -> int { n } struct S { x: @main } }", api.ErrSort},
		{"mod main { fn main(n: int) -> int { n } struct S { x: @Box<int, int> } }", api.ErrCount},
		{"mod main { fn main(n: int) -> int { n } struct S { x: @&int } }", api.ErrLife},
		{"mod main { fn main(n: int) -> int { n } @struct S { x: (int, Option<S>) } }", api.ErrSize},
		{"mod main { fn main(n: int) -> int { n } @impl Send for int { } }", api.ErrImpl},
		{"mod main { fn main(n: int) -> int { n } @copy struct S { x: Box<int> } }", api.ErrCopy},
		{"@mod main { fn main(n: bool) -> int { 1 } }", api.ErrMain},
		{"@", api.ErrMain},
		// Types.
		{"mod main { trait A { } impl A for int { } @impl A for int { } fn main(n: int) -> int { n } }", api.ErrOverlap},
		{"mod main { fn main(n: int) -> int { @true } }", api.ErrType},
		{"mod main { fn main(n: int) -> int { let x = @Option::None; n } }", api.ErrGuess},
		{"mod main { trait A { } fn f<T: A>(x: T) { } fn main(n: int) -> int { f@(n); n } }", api.ErrBound},
		{"mod main { fn main(n: int) -> int { @1 = n; n } }", api.ErrPlace},
		{"mod main { fn main(n: int) -> int { @break } }", api.ErrOut},
		{"mod main { fn main(n: int) -> int { @match n { 1 => 1 } } }", api.ErrArms},
		{"mod main { fn main(n: int) -> int { match n { _ => 1, @2 => 2 } } }", api.ErrIdle},
		{"mod main { fn main(n: int) -> int { let r = rc(n); spawn[@r] -> int { 1 }; n } }", api.ErrSend},
		// Code.
		{"mod main { @fn main(n: int) -> int { " + strings.Repeat("n;", 700) + " n } }", api.ErrMany},
		// Instances.
		{"mod main { @fn f<T>(x: T, n: int) -> int { if n == 0 { 0 } else { f((x, n), n - 1) } } fn main(n: int) -> int { f(n, n) } }", api.ErrMany},
	} {
		at := strings.Index(row.text, "@")
		text := row.text[:at] + row.text[at+1:]
		want := api.Fault{Kind: row.kind, At: at}
		p, fault := Load(text)
		q, other := Trust(text)
		o, third := Run(text, 5, 1000, []int{1}, true)
		if fault != want || other != want || third != want {
			t.Errorf("%.200s: %v, %v, %v, not %v", text, fault, other, third, want)
		}
		if !reflect.DeepEqual(p, api.Program{}) || !reflect.DeepEqual(q, api.Program{}) || !reflect.DeepEqual(o, api.Outcome{}) {
			t.Errorf("%.200s: more than a fault", text)
		}
	}
}

// faulty are items with a fault each, at @, by the layer that finds it.
var faulty = []struct {
	item string
	kind api.Errno
}{
	{"fn s() { @] }", api.ErrSyntax},
	{"fn i(x: @Nope) { }", api.ErrName},
	{"fn c() -> int { @true }", api.ErrType},
	{"@fn l(n: int) { " + strings.Repeat("n;", 700) + " }", api.ErrMany},
	{"fn o(b: Box<int>) -> int { unbox(b) + unbox(@b) }", api.ErrHole},
	{"fn b(n: int) -> int { let mut x = n; let r = &mut x; x @= 1; *r }", api.ErrLoan},
	{"@fn m<T>(x: T, n: int) -> int { if n == 0 { 0 } else { m((x, n), n - 1) } }", api.ErrMany},
}

// P30: of several faults the first layer's is the answer, wherever they stand in the text.
func TestFirstFault(t *testing.T) {
	for a, first := range faulty {
		for b, second := range faulty {
			for _, both := range [][2]string{{first.item, second.item}, {second.item, first.item}} {
				kept := 0
				if (a < b) == (both[1] == first.item) {
					kept = 1
				}
				if a == b {
					kept = 0
					both[1] = ""
				}
				both[1-kept] = strings.Replace(both[1-kept], "@", "", 1)
				head := "mod main { fn main(n: int) -> int { m(n, n) } "
				if a < 6 && b < 6 {
					head = "mod main { fn main(n: int) -> int { n } "
				}
				text := head + both[0] + " " + both[1] + " }"
				want := api.Fault{Kind: faulty[min(a, b)].kind, At: strings.Index(text, "@")}
				if _, fault := Load(strings.Replace(text, "@", "", 1)); fault != want {
					t.Errorf("%.300s: %v, not %v", text, fault, want)
				}
			}
		}
	}
	// Trust goes past owners and loans to the instances.
	text := "mod main { fn main(n: int) -> int { m(n, n) } " + faulty[4].item + " " + faulty[5].item + " " + strings.Replace(faulty[6].item, "@", "", 1) + " }"
	text = strings.ReplaceAll(text, "@", "")
	_, fault := Trust(text)
	if want := (api.Fault{Kind: api.ErrMany, At: strings.Index(text, "fn m<")}); fault != want {
		t.Errorf("%v, not %v", fault, want)
	}
}

// P30: functions that nobody calls are looked at too, but have no place in the program.
func TestUnused(t *testing.T) {
	for _, row := range []struct {
		item string
		kind api.Errno
	}{
		{"fn f(b: Box<int>) -> int { unbox(b) + unbox(@b) }", api.ErrHole},
		{"fn f<T>(t: T) -> (T, T) { (t, @t) }", api.ErrHole},
		{"@fn f<'a, T>(t: &'a T) -> &'static T { t }", api.ErrLives},
		{"struct S { b: Box<int> } impl Drop for S { fn drop(self: &mut S) { unbox((*self)@.b); } }", api.ErrMove},
		{"fn f() -> int { let g = fn[]() -> int { let x: int; @x }; 1 }", api.ErrHole},
		{"fn f<T>(t: T, n: int) { if n > 0 { f((t, t2()), n - 1); } } fn t2() -> int { 2 }", api.OK},
		{"fn f(n: int) -> int { n }", api.OK},
	} {
		text := "mod main { " + row.item + " fn main(n: int) -> int { n } }"
		want := api.Fault{Kind: row.kind, At: max(strings.Index(text, "@"), 0)}
		text = strings.Replace(text, "@", "", 1)
		p, fault := Load(text)
		if fault != want || fault.Kind == api.OK && len(p.Fns) != 1 {
			t.Errorf("%s: %v, %d functions, not %v", row.item, fault, len(p.Fns), want)
		}
		if p, fault = Trust(text); fault.Kind != api.OK || len(p.Fns) != 1 {
			t.Errorf("%s: by Trust %v, %d functions", row.item, fault, len(p.Fns))
		}
	}
}

// P30: texts that pass, and what comes of them; Trust has the same program.
func TestWritten(t *testing.T) {
	for _, list := range [][]written{plainTexts, threadTexts} {
		for _, w := range list {
			text := whole(w.text)
			p, fault := Load(text)
			q, other := Trust(text)
			if fault.Kind != api.OK || other.Kind != api.OK || len(p.Fns) == 0 || !reflect.DeepEqual(p, q) {
				t.Errorf("%s: %v %.40q, by Trust %v", w.text, fault, text[fault.At:], other)
				continue
			}
			var ends []string
			for _, arg := range []int{0, 1, 5, 9} {
				o, fault := Run(text, arg, api.MaxFuel, nil, false)
				if fault.Kind != api.OK || !same(o, run.Run(p, arg, api.MaxFuel, nil, false)) {
					t.Errorf("%s: %v, %+v", w.text, fault, o)
				}
				ends = append(ends, tell(o))
			}
			if got := strings.Join(ends, "; "); got != w.ends {
				t.Errorf("%s: %s, not %s", w.text, got, w.ends)
			}
		}
	}
}

// P30: Run hands on the number, the steps, the picks and how they are used.
func TestRunIsGiven(t *testing.T) {
	text := whole("fn main(n: int) -> int { let h = spawn[n] -> int { out(n); out(n + 1); n }; out(10); out(20); join(h); n }")
	for _, row := range []struct {
		arg, fuel int
		picks     []int
		fine      bool
		want      string
	}{
		{5, 100, nil, false, "Done 5 [10 20 5 6]"},
		{7, 100, []int{0, 1, 1, 1}, false, "Done 7 [7 8 10 20]"},
		{7, 100, []int{0, 1, 1, 0, 1, 0}, false, "Done 7 [7 10 8 20]"},
		{5, 5, nil, false, "Going [10]"},
		{5, 0, nil, false, "Going"},
		{5, -4, nil, false, "Going"},
		{math.MinInt, math.MaxInt, []int{math.MaxInt, math.MinInt}, true, fmt.Sprint("Done ", math.MinInt, " [10 20 ", math.MinInt, " ", math.MinInt+1, "]")},
	} {
		o, fault := Run(text, row.arg, row.fuel, row.picks, row.fine)
		if got := tell(o); got != row.want || fault.Kind != api.OK {
			t.Errorf("%+v: %s, %v", row, got, fault)
		}
	}
	if o, _ := Run(whole("fn main(n: int) -> int { loop { } n }"), 5, math.MaxInt, nil, false); o.How != api.Going || o.Steps != api.MaxFuel {
		t.Errorf("%+v", o)
	}
	// Only a fine run may stop a thread between its meetings.
	text = whole("fn main(n: int) -> int { let h = spawn[] -> int { loop { } 1 }; n }")
	coarse, _ := Run(text, 5, 300, []int{0, 1}, false)
	fine, _ := Run(text, 5, 300, []int{0, 1}, true)
	if coarse.How != api.Going || fine.How != api.Going || coarse.Value != 0 || fine.Value != 5 {
		t.Errorf("%+v, %+v", coarse, fine)
	}
}

// spread is a text with the same tokens, but blanks and remarks of all kinds between them.
func spread(text string, r *rand.Rand) string {
	between := []string{" ", "\n", "\t ", " # a ' remark } \xff\n", "  ", "#\n"}
	out := ""
	for _, word := range wordsOf(text) {
		out += between[r.Intn(len(between))] + word
	}
	return out + between[r.Intn(len(between))]
}

// token is the number of the token at a place.
func token(text string, at int) int {
	tokens, _ := lexer.Tokens(text)
	for k, token := range tokens {
		if token.At == at {
			return k
		}
	}
	return -1
}

// P30: a text that is written otherwise, but has the same tree, has the same faults, at the same tokens, and its runs are the same.
func TestWrittenOtherwise(t *testing.T) {
	r := rand.New(rand.NewSource(3))
	var texts []string
	for _, list := range [][]written{plainTexts, threadTexts} {
		for _, w := range list {
			texts = append(texts, whole(w.text))
			for range 6 {
				texts = append(texts, changed(r, whole(w.text), 2))
			}
		}
	}
	faults := 0
	for _, text := range texts {
		tree, fault := syntax.Parse(text)
		other := spread(text, r)
		if fault.Kind != api.OK || len(other) > api.MaxText {
			continue
		}
		_, fault = Load(text)
		_, far := Load(other)
		if fault.Kind != far.Kind || fault.Kind != api.OK && fault.Kind != api.ErrMain && token(text, fault.At) != token(other, far.At) {
			t.Errorf("%s: %v, but spread %v", text, fault, far)
		}
		if fault.Kind != api.OK {
			faults++
		}
		printed := syntax.Print(tree)
		for _, second := range []string{other, printed} {
			picks := randomPicks(r)
			a, f := Run(text, 5, 3000, picks, true)
			b, g := Run(second, 5, 3000, picks, true)
			if f.Kind != g.Kind || !same(a, b) {
				t.Errorf("%s: %v, %+v, but as %s: %v, %+v", text, f, a, second, g, b)
			}
		}
	}
	if faults < 50 {
		t.Error(faults)
	}
	// The same tree with signs that need not stand there.
	plain := whole("struct S { x: int } fn f(a: int, b: int) -> int { if a < b { a } else { b } } fn main(n: int) -> int { let s = make S { x: n }; match n { 1 => 2, _ => f(s.x, n * 2) - 1 } }")
	signs := whole("struct S { x: (int), } fn f(a: int, b: (int)) -> int { if (a < b) { (a) } else { b } } fn main(n: int) -> int { let s = (make S { x: (n), }); match (n) { (1) => 2, _ => (f((s.x), (n * 2)) - 1), } }")
	a, f := Run(plain, 5, 1000, nil, false)
	b, g := Run(signs, 5, 1000, nil, false)
	if f.Kind != api.OK || g.Kind != api.OK || !same(a, b) || tell(a) != "Done 4" {
		t.Errorf("%v %+v, %v %+v", f, a, g, b)
	}
}

// P2: what is answered is new memory, and the same each time; picks stay as they are.
func TestOwnMemory(t *testing.T) {
	text := whole(threadTexts[1].text)
	p, _ := Load(text)
	q, _ := Load(text)
	if !reflect.DeepEqual(p, q) {
		t.Error("another program")
	}
	for n := range p.Fns {
		for k := range p.Fns[n].Code {
			p.Fns[n].Code[k] = api.Instr{Op: api.IPanic}
		}
		p.Fns[n].Vars, p.Fns[n].Sig.Ins = nil, nil
	}
	if again, _ := Load(text); !reflect.DeepEqual(again, q) {
		t.Error("another program")
	}
	picks := []int{2, 1, 0, 3, 1, 1}
	a, _ := Run(text, 5, 4000, picks, true)
	for n := range a.Order {
		a.Order[n] = -1
	}
	b, _ := Run(text, 5, 4000, picks, true)
	c, _ := Run(text, 5, 4000, []int{2, 1, 0, 3, 1, 1}, true)
	if !same(b, c) || fmt.Sprint(picks) != "[2 1 0 3 1 1]" {
		t.Errorf("%+v, %+v, %v", b, c, picks)
	}
}

// P1: whatever the text is, there is an answer, and beside a fault nothing else.
func TestAnyText(t *testing.T) {
	r := rand.New(rand.NewSource(5))
	var words []string
	for _, list := range [][]written{plainTexts, threadTexts} {
		for _, w := range list {
			words = append(words, wordsOf(w.text)...)
		}
	}
	for n := range 1500 {
		var text string
		switch n % 3 {
		case 0:
			bytes := make([]byte, r.Intn(60))
			for k := range bytes {
				bytes[k] = byte(r.Intn(256))
			}
			text = string(bytes)
		case 1:
			for range r.Intn(40) {
				text += words[r.Intn(len(words))] + " "
			}
			text = whole(text + "fn main(n: int) -> int { n }")
		default:
			list := [][]written{plainTexts, threadTexts}[r.Intn(2)]
			text = changed(r, whole(list[r.Intn(len(list))].text), 1+r.Intn(20))
		}
		p, fault := Load(text)
		q, other := Trust(text)
		if fault.Kind != api.OK && len(p.Fns) > 0 || fault.Kind == api.OK && (len(p.Fns) == 0 || !reflect.DeepEqual(p, q)) || other.Kind != api.OK && other != fault {
			t.Errorf("%s: %v, %v", text, fault, other)
		}
		if other.Kind == api.OK {
			// What is let through only by Trust may go wrong, but ends.
			run.Run(q, r.Intn(10), 2000, randomPicks(r), r.Intn(2) == 0)
		}
	}
}
