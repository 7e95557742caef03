package owns

import (
	"fmt"
	"strings"
	"testing"

	"holdfast/api"
)

// tellInstr writes an instruction nearly as a reader reads it.
func tellInstr(f api.FnDef, i api.Instr) string {
	text := ""
	if i.Op <= api.IPut {
		text = tellPlace(f, i.To) + " "
	}
	text += words[i.Op]
	switch i.Op {
	case api.IJump, api.IIf:
		text += fmt.Sprint("#", i.N)
	case api.IEnd:
		text += "#" + tellPlace(f, api.Place{Local: i.N})
	case api.IRef, api.IMut, api.ITag:
		text += " @" + tellPlace(f, i.From)
	}
	for _, a := range i.Args {
		switch a.Kind {
		case api.OpInt, api.OpBool:
			text += fmt.Sprint(" #", a.N)
		default:
			text += " " + string("cm"[a.Kind]) + tellPlace(f, a.Place)
		}
	}
	return text
}

// holdRows looks at the paths of function f, and at what is told ahead of each of its instructions: a row is an instruction and, behind a bar, what tellRow writes.
func holdRows(t *testing.T, p api.Program, paths string, rows ...string) {
	t.Helper()
	n := fnOf(p, "f")
	f, flow := p.Fns[n], Flow(p, n)
	if got := tellPaths(f, flow); got != paths {
		t.Errorf("paths %q, not %q", got, paths)
	}
	var got []string
	for n, i := range f.Code {
		got = append(got, tellInstr(f, i)+" | "+tellRow(flow, n))
	}
	if strings.Join(got, "\n") != strings.Join(rows, "\n") {
		t.Errorf("%s\nnot\n%s", strings.Join(got, "\n"), strings.Join(rows, "\n"))
	}
}

// P22: two ways that meet: what only one of them moves may be there and may not.
func TestWaysThatMeet(t *testing.T) {
	holdRows(t, lowered(t, "mod main { fn f(b: Box<int>, y: bool) { if y { let c = b; } }"+ending), "",
		"3 use cy | -++-- nyynn yyyny",
		"if#4 m3 | -+++- nynyn yyyyy",
		"c use mb | -++-- nynnn yyyyn",
		"end#c | --+-+ nnnnn yyyyy",
		"0 tuple | -?+-- nnnnn nyyyy",
		"end#3 | +?+-- ynnnn yyyyy",
		"end#y | +?+-- ynnnn yyyyy",
		"end#b | +?--- ynnnn yyyyy",
		"ret | +---- ynnnn nnnnn",
		"end#c | ?-?-- nnnnn yyyyy",
		"end#3 | ?-?-- nnnnn yyyyn",
		"end#y | ?-?-- nnnnn yyynn",
		"end#b | ?---- nnnnn yynnn",
		"end#0 | ?---- nnnnn ynnnn",
		"resume | ----- nnnnn nnnnn")
}

// P22: a way that ends in a panic does not meet the other one, but Clean.
func TestWayOfPanic(t *testing.T) {
	holdRows(t, lowered(t, "mod main { fn f(y: bool) -> Box<int> { let x: Box<int>; if y { x = boxed(1); } else { panic; } x }"+ending), "",
		"3 use cy | -+--- nynnn yyyny",
		"if#6 m3 | -+-+- nnnyn yyyyy",
		"4 lib #1 | -+--- nnnnn yyyyn",
		"x put m4 | -+--+ nnnny yyyyy",
		"end#4 | -++-- nnynn yyyyy",
		"jump#7 | -++-- nnynn nyyyy",
		"panic | -+--- nnnnn yyyyy",
		"end#3 | -++-- nnynn nyyyy",
		"0 use mx | -++-- nnynn nyyyy",
		"end#x | ++--- ynnnn yyyyy",
		"end#y | ++--- ynnnn nynnn",
		"ret | +---- ynnnn nnnnn",
		"end#4 | ?+?-- nnnnn yyyyy",
		"end#3 | ?+?-- nnnnn yyyyn",
		"end#x | ?+?-- nnnnn yyynn",
		"end#y | ?+--- nnnnn yynnn",
		"end#0 | ?---- nnnnn ynnnn",
		"resume | ----- nnnnn nnnnn")
}

// P22: loops, with a way out and without one.
func TestLoops(t *testing.T) {
	holdRows(t, lowered(t, "mod main { fn f(b: Box<int>, y: bool) { while y { let c = b; } }"+ending), "",
		"3 use cy | -?+-- nyynn yyyny",
		"if#5 m3 | -?++- nyyyn yyyyy",
		"c use mb | -?+-- nyynn yyyyn",
		"end#c | --+-+ nyynn yyyyy",
		"jump#0 | --+-- nyynn yyyny",
		"0 tuple | -?+-- nnnnn nyyyy",
		"end#3 | +?+-- ynnnn yyyyy",
		"end#y | +?+-- ynnnn yyyyy",
		"end#b | +?--- ynnnn yyyyy",
		"ret | +---- ynnnn nnnnn",
		"end#c | ?-?-- nnnnn yyyyy",
		"end#3 | ?-?-- nnnnn yyyyn",
		"end#y | ?-?-- nnnnn yyynn",
		"end#b | ?---- nnnnn yynnn",
		"end#0 | ?---- nnnnn ynnnn",
		"resume | ----- nnnnn nnnnn")
	holdRows(t, lowered(t, "mod main { fn f(mut b: Box<int>) { loop { b = boxed(1); } }"+ending), "",
		"2 lib #1 | -+- nnn yyn",
		"b put m2 | -++ nny yyy",
		"end#2 | -+- nnn yyy",
		"jump#0 | -+- nnn yyn",
		"end#2 | -+- nnn yyy",
		"end#b | -+- nnn yyn",
		"end#0 | --- nnn ynn",
		"resume | --- nnn nnn")
	// Nothing panics: nothing leads to Clean, but what may be dropped there is told.
	holdRows(t, lowered(t, "mod main { fn f(mut n: int) { loop { n = 1; } }"+ending), "",
		"n use #1 | -+ nn nn",
		"jump#0 | -+ nn nn",
		"end#n | .. nn yy",
		"end#0 | .. nn yn",
		"resume | .. nn nn")
}

// P22: paths go with what they begin with, not with what begins with them.
func TestParts(t *testing.T) {
	holdRows(t, lowered(t, "mod main { fn f(p: (Box<int>, (Box<int>, int))) { let q = p.1; let r = p.0; }"+ending), "p.1 p.0",
		"q use mp.1 | -+--++ nynn nynn",
		"r use mp.0 | -++--+ nynn nyyn",
		"0 tuple | -+++-- nnnn nyyy",
		"end#r | ++++-- ynnn yyyy",
		"end#q | +++--- ynnn yyyy",
		"end#p | ++---- ynnn yyyy",
		"ret | +----- ynnn nnnn",
		"end#r | +??--- nnnn yyyy",
		"end#q | +??--- nnnn yyyn",
		"end#p | +?---- nnnn yynn",
		"end#0 | +----- nnnn ynnn",
		"resume | ------ nnnn nnnn")
	holdRows(t, lowered(t, "mod main { fn f(mut p: (Box<int>, (Box<int>, int))) { p.1.0 = p.0; p = p; }"+ending), "p.0 p.1 p.1.0",
		"2 use mp.0 | -+--+++ nynn yyny",
		"p.1.0 put m2 | -++--++ nyyn yyyy",
		"end#2 | -+---++ nynn yyyy",
		"3 use mp | -+---++ nynn yyyn",
		"p put m3 | ---+--- nnny yyyy",
		"end#3 | -+--+++ nnnn yyyy",
		"0 tuple | -+--+++ nnnn nyyy",
		"end#p | ++--+++ ynnn yyyy",
		"ret | +------ ynnn nnnn",
		"end#3 | ??--??? nnnn yyyy",
		"end#2 | ??--??? nnnn yyyn",
		"end#p | ??--??? nnnn yynn",
		"end#0 | ?------ nnnn ynnn",
		"resume | ------- nnnn nnnn")
}

// P22: what is moved, or given, takes with it all that begins with it, at any depth.
func TestWholeTrees(t *testing.T) {
	const text = "mod main { struct P { a: Box<int>, q: (Box<int>, (Box<int>, int)) } fn f(mut p: P, y: bool) -> P { let mut s: P; panic } fn main(n: int) -> int { n } }"
	holdRows(t, coded(t, lowered(t, text), "_ if#3 cy", "_ end#p", "_ jump#5", "s.1.1.1 use #1", "s.1 use mp.1", "p.1.1 use ms.1.1", "_ if#8 true", "s use mp", "0 use ms", "_ ret"), "s.1 s.1.1 s.1.1.1 p.1 p.1.1",
		"if#3 cy | -++----++ nyyy yyyy",
		"end#p | -++----++ nnny yyyy",
		"jump#5 | --+------ nyny nnnn",
		"s.1.1.1 use #1 | -++----++ nyny nnnn",
		"s.1 use mp.1 | -++---+++ nyny nnnn",
		"p.1.1 use ms.1.1 | -?+-???-- nyny nnnn",
		"if#8 #1 | -?+-?---+ nyny nnnn",
		"s use mp | -?+-?---+ nynn nnnn",
		"0 use ms | -?+????-? nnny nnnn",
		"ret | +?+-----? ynnn nnnn",
		"end#s | --+------ nnnn yyyy",
		"end#y | --+------ nnnn yyyn",
		"end#p | --------- nnnn yynn",
		"end#0 | --------- nnnn ynnn",
		"resume | --------- nnnn nnnn")
}

// P22: of what nothing leads to neither is told of paths, but Live and Drop are told of it.
func TestWhereNothingLeads(t *testing.T) {
	const text = "mod main { fn f(b: Box<int>, i: int) -> int { let mut g: Box<int>; let k: int; panic } fn main(n: int) -> int { n } }"
	holdRows(t, coded(t, lowered(t, text), "_ jump#4", "g put mb", "k use mi", "_ jump#1", "0 use ci", "_ ret"), "",
		"jump#4 | -++-- nnynn nnnnn",
		"g put mb | ..... nyynn yyyyy",
		"k use mi | ..... nyynn yyyyn",
		"jump#1 | ..... nyynn yyyyy",
		"0 use ci | -++-- nnynn nnnnn",
		"ret | +++-- ynnnn nnnnn",
		"end#k | ..... nnnnn yyyyy",
		"end#g | ..... nnnnn yyyyn",
		"end#i | ..... nnnnn yyynn",
		"end#b | ..... nnnnn yynnn",
		"end#0 | ..... nnnnn ynnnn",
		"resume | ..... nnnnn nnnnn")
}

// P22: a loop that is entered in its middle, and code that is reached only by a way back.
func TestWaysBack(t *testing.T) {
	const text = "mod main { fn f(b: Box<int>, y: bool) -> int { let g: Box<int>; let k: int; panic } fn main(n: int) -> int { n } }"
	holdRows(t, coded(t, lowered(t, text), "_ jump#3", "k use #1", "_ jump#4", "_ if#1 cy", "g use mb", "_ jump#3"), "",
		"jump#3 | -++-- nyynn nnnnn",
		"k use #1 | -?+?? nyynn nnnnn",
		"jump#4 | -?+?+ nyynn nnnnn",
		"if#1 cy | -?+?? nyynn nnnnn",
		"g use mb | -?+?? nyynn nnnnn",
		"jump#3 | --++? nyynn nnnnn",
		"end#k | ..... nnnnn yyyyy",
		"end#g | ..... nnnnn yyyyn",
		"end#y | ..... nnnnn yyynn",
		"end#b | ..... nnnnn yynnn",
		"end#0 | ..... nnnnn ynnnn",
		"resume | ..... nnnnn nnnnn")
}

// P22: which paths there are, and in which order.
func TestPaths(t *testing.T) {
	p := lowered(t, items)
	for _, c := range []struct {
		code  string
		paths string
	}{
		{"k use ci", ""},
		{"k use cq.1.1", ""},
		{"ri ref @q.1.0", ""},
		{"mi mut @q.1.0; k tag @e", ""},
		{"g use mq.0", "q.0"},
		{"g use mq.1.0", "q.1 q.1.0"},
		{"q.1.0 use mp.1.0", "q.1 q.1.0 p.1 p.1.0"},
		{"g use mr*.0; bb use mo*.1.0; m*.1.0 use mb; u* use mw", ""},
		{"g use me:2.0.1.1.0; bb use me:1.0; q use me:2.0.1; z:2.0.0 use mg", "e:2.0 e:2.0.1 e:2.0.1.1 e:2.0.1.1.0 e:1.0 z:2.0 z:2.0.0"},
		{"ss use ms; tu tuple ms.0 ms.1.0; ss.1 use ms.1; ss.1.1 use #2", "s.0 s.1 s.1.0 ss.1 ss.1.1"},
		{"q.1.1 put mp.1.1; p.1 put mq.1", "q.1 q.1.1 p.1 p.1.1"},
	} {
		code := append(strings.Split(c.code, "; "), "_ ret")
		q := coded(t, p, code...)
		n := fnOf(q, "f")
		flow := Flow(q, n)
		if got := tellPaths(q.Fns[n], flow); got != c.paths {
			t.Errorf("%s: %q, not %q", c.code, got, c.paths)
		}
		for k := range q.Fns[n].Vars {
			if path := flow.Paths[k]; path.Local != k || len(path.Steps) > 0 {
				t.Errorf("%s: path %d is %v", c.code, k, path)
			}
		}
	}
}

const ending = " fn main(n: int) -> int { n } }"
