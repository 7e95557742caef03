package borrow

import (
	"slices"
	"strings"
	"testing"

	"holdfast/api"
	"holdfast/graph"
)

// lendsSo looks at what function f of some items lends: its code, an instruction after the other; the spans of its locals; its loans, each with where it is out. The instructions from Clean on are left out of the code.
func lendsSo(t *testing.T, items, code, spans, loans string) {
	t.Helper()
	text := "mod main { " + items + " fn main(n: int) -> int { n } }"
	p := lowered(t, text)
	n := fnOf(p, "f")
	f, lend := p.Fns[n], Lend(p, n)
	var instrs []string
	for _, i := range f.Code[:f.Clean] {
		instrs = append(instrs, tellInstr(f, i))
	}
	if got := strings.Join(instrs, "; "); got != code {
		t.Errorf("%q: code %s", text, got)
	}
	if got := tellSpans(f, lend); got != spans {
		t.Errorf("%q: spans %s, not %s", text, got, spans)
	}
	if got := tellLoans(f, lend); got != loans {
		t.Errorf("%q: loans %s, not %s", text, got, loans)
	}
	if len(lend.Spans) != len(f.Vars) || len(lend.Out) != len(f.Code) || slices.ContainsFunc(lend.Out, func(row []int) bool { return !slices.IsSorted(row) }) {
		t.Errorf("%q: %v", text, lend)
	}
	holdProgram(t, text, p)
}

// P24, P25: a region lasts while its local is used later; universal ones last everywhere.
func TestSpans(t *testing.T) {
	lendsSo(t, "fn f(n: int) -> int { let r = &n; *r }",
		"r ref n; 0 use cr*; end r; end n; ret",
		"r: [1]", "0 &n [1]")
	lendsSo(t, "fn f(n: int) -> int { let r = &n; let s = r; 1 + *s }",
		"r ref n; s use cr; 4 use cs*; 0 bin 1 m4; end 4; end s; end r; end n; ret",
		"r: [1-2] s: [2]", "0 &n [1-2]")
	lendsSo(t, "fn f<'a>(x: &'a int) -> &'a int { x }",
		"0 use cx; end x; ret",
		"0: [0-5] x: [0-5]", "")
	lendsSo(t, "fn f<'a, T>(x: &'a T, y: (T, &'static int)) -> &'a T { let p = &y; let q = &(*p).0; let r = &y.1; x }",
		"p ref y; q ref p*.0; r ref y.1; 0 use cx; end r; end q; end p; end y; end x; ret",
		"0: [0-16] x: [0-16] y: [0-16] p: [1] [1] q: [] r: [] []", "0 &y [1]; 2 &y.1 []")
	lendsSo(t, "fn f(n: int) -> int { n }", "0 use cn; end n; ret", "", "")
}

// P24, P25: loops: what is not used again before it is renewed does not last there.
func TestLoops(t *testing.T) {
	lendsSo(t, "fn f(n: int) -> int { let mut x = n; let mut r = &x; while *r > 1 { x = 1; r = &x; } n }",
		"x use cn; r ref x; 5 use cr*; 4 bin m5 1; end 5; if#11 m4; x use 1; 6 ref x; r use m6; end 6; jump#2; end 4; 0 use cn; end r; end x; end n; ret",
		"r: [2,9-10] 6: [2,8-10]", "1 &x [2]; 7 &x [2,8-10]")
}

// P24, P25: ways that meet again: each loan is out on its own way, and behind both.
func TestMeetings(t *testing.T) {
	lendsSo(t, "fn f(n: int) -> int { let mut x = n; let mut y = n; let r: &mut int; if n > 1 { r = &mut x; } else { r = &mut y; } *r = 2; n }",
		"x use cn; y use cn; 6 use cn; 5 bin m6 1; end 6; if#10 m5; 7 mut x; r use m7; end 7; jump#13; 8 mut y; r use m8; end 8; end 5; r* use 2; 0 use cn; end r; end y; end x; end n; ret",
		"r: [8-9,12-14] 7: [7-9,12-14] 8: [8-9,11-14]", "6 &mut x [7-9,13-14]; 10 &mut y [11-14]")
	lendsSo(t, "fn f(n: int) -> int { let mut x = n; let r = &mut x; if n > 1 { *r = 1; panic; } x }",
		"x use cn; r mut x; 5 use cn; 4 bin m5 1; end 5; if#8 m4; r* use 1; panic; end 4; 0 use cx; end r; end x; end n; ret",
		"r: [2-6]", "1 &mut x [2-6]")
}

// P24, P25: calls: each operand lasts as long as the signature says.
func TestCalls(t *testing.T) {
	lendsSo(t, "fn g<'a, 'b>(x: &'a int, y: &'b int) -> &'a int { x } fn f(n: int) -> int { let x = 1; let y = 2; let r = g(&x, &y); *r }",
		"x use 1; y use 2; 5 ref x; 6 ref y; r call m5 m6; end 6; end 5; 0 use cr*; end r; end y; end x; end n; ret",
		"r: [5-7] 5: [3-7] 6: [4]", "2 &x [3-7]; 3 &y [4]")
	lendsSo(t, "fn g<'a, 'b: 'a>(x: &'a int, y: &'b int) -> &'a int { x } fn f(n: int) -> int { let x = 1; let y = 2; let r = g(&x, &y); *r }",
		"x use 1; y use 2; 5 ref x; 6 ref y; r call m5 m6; end 6; end 5; 0 use cr*; end r; end y; end x; end n; ret",
		"r: [5-7] 5: [3-7] 6: [4-7]", "2 &x [3-7]; 3 &y [4-7]")
}

// P24, P25: what a reference leads to through another one: that lasts too. What is given ends the loan, unless a panic comes first.
func TestEndedLoans(t *testing.T) {
	lendsSo(t, "fn f(n: int) -> int { let mut x = n; let mut y = n; let mut r = &mut x; let s = &mut *r; r = g(&mut y); *s = 1; *r } fn g<'a>(x: &'a mut int) -> &'a mut int { x }",
		"x use cn; y use cn; r mut x; s mut r*; 7 mut y; 6 call m7; r use m6; end 7; end 6; s* use 1; 0 use cr*; end s; end r; end y; end x; end n; ret",
		"r: [3-10] s: [4-9] 6: [3-10] 7: [3-10]", "2 &mut x [3-10]; 3 &mut r* [4-6]; 4 &mut y [5-10]")
	lendsSo(t, "fn f(n: int) -> int { let mut b = boxed(n); let r = &mut *b; *r = 1; b = boxed(2); let s = &b; **s }",
		"3 use cn; b lib m3; end 3; r mut b*; r* use 1; 5 lib 2; b put m5; end 5; s ref b; 0 use cs**; end s; end r; end b; end n; ret",
		"r: [4] s: [9]", "3 &mut b* [4]; 8 &b [9]")
}

// P24, P25: what is dropped later lasts till then, on the way of a panic too (its instructions are those behind the code that is told).
func TestDropsOfPanics(t *testing.T) {
	lendsSo(t, "struct G<'a> { r: &'a int } impl<'a> Drop for G<'a> { fn drop(self: &mut G<'a>) { } } fn f(n: int) -> int { let x = n; let g = make G { r: &x }; n / n }",
		"x use cn; 4 ref x; g make m4; end 4; 5 use cn; 6 use cn; 0 bin m5 m6; end 6; end 5; end g; end x; end n; ret",
		"g: [3-9,13-16] 4: [2-9,13-16]", "1 &x [2-9,13-16]")
	lendsSo(t, "fn f(n: int) -> int { let b = boxed(n); let c = fn[&b]() -> int { **b }; c() }",
		"3 use cn; b lib m3; end 3; 5 ref b; c clos m5; end 5; 6 ref c; 0 invoke m6; end 6; end c; end b; end n; ret",
		"c: [5-9,13-15] 5: [4-9,13-15] 6: [7] [7]", "3 &b [4-9,13-15]; 6 &c [7]")
}

// P24, P25: by a panic, what is put ends the loans of what stood there, and so does an end: they are not out at Clean, though their regions last there.
func TestEndedByPanics(t *testing.T) {
	const items = "struct K<'a> { r: &'a mut int } impl<'a> Drop for K<'a> { fn drop(self: &mut K<'a>) { } } "
	lendsSo(t, items+"fn f(n: int) { let mut x = n; let mut y = n; let mut p = (&mut x, boxed(1)); let k = make K { r: &mut *p.0 }; p = (&mut y, boxed(2)); }",
		"x use cn; y use cn; 5 mut x; 6 lib 1; p tuple m5 m6; end 6; end 5; 8 mut p.0*; k make m8; end 8; 10 mut y; 11 lib 2; 9 tuple m10 m11; p put m9; end 11; end 10; end 9; 0 tuple; end k; end p; end y; end x; end n; ret",
		"p: [5-18,24-28] 5: [3-18,24-28] k: [9-18,24-28] 8: [8-18,24-28] 9: [5-18,24-28] 10: [5-18,24-28]", "2 &mut x [3-18,24-28]; 7 &mut p.0* [8-13]; 10 &mut y [11-18,24-28]")
	lendsSo(t, "fn f<'a>(x: &'a mut int) -> &'a mut int { let p = (x, boxed(1)); &mut *p.0 }",
		"3 use mx; 4 lib 1; p tuple m3 m4; end 4; end 3; 0 mut p.0*; end p; end x; ret",
		"0: [0-14] x: [0-14] p: [0-14] 3: [0-14]", "5 &mut p.0* [6]")
}

// P24: what is given by anything else than a put does not come if there is a panic: then the loans of what stood there stay out. No text has such code, but the rule is told.
func TestGivenByPanics(t *testing.T) {
	p := lowered(t, "mod main { struct K<'a> { r: &'a mut int } impl<'a> Drop for K<'a> { fn drop(self: &mut K<'a>) { } } fn pass<'a>(x: &'a mut int) -> &'a mut int { x } fn f(n: int) { let mut x = n; let mut y = n; let mut r = &mut x; let k = make K { r: &mut *r }; r = pass(&mut y); } fn main(n: int) -> int { n } }")
	n := fnOf(p, "f")
	f := &p.Fns[n]
	call := slices.IndexFunc(f.Code, func(i api.Instr) bool { return i.Op == api.ICall })
	f.Code[call].To, f.Code[call+1] = f.Code[call+1].To, api.Instr{Op: api.IUse, To: api.Place{Local: 1}, Args: []api.Oper{{Kind: api.OpInt}}}
	if wrong := graph.Check(p, n); wrong != -1 {
		t.Fatal(wrong, tellInstr(*f, f.Code[wrong]))
	}
	if got := tellLoans(*f, Lend(p, n)); got != "2 &mut x [3-12,18-21]; 3 &mut r* [4-7,18-21]; 6 &mut y [7-12,18-21]" {
		t.Error(got)
	}
	holdLend(t, "given by panics", p, n)
}

// P24 to P26: what nothing leads to says nothing, and is asked for nothing. No text has such code, but at Clean.
func TestWhereNothingLeads(t *testing.T) {
	p := lowered(t, "mod main { fn f(n: int) { let mut x = n; let mut y = n; let mut r = &x; r = &y; x = 2; r; } fn main(n: int) -> int { n } }")
	n := fnOf(p, "f")
	f := &p.Fns[n]
	// x use cn; y use cn; jump#5; 5 ref y; r use m5; r ref x; x use 2; ..: the jump leaves a reference out, and what is done with it.
	jump := slices.IndexFunc(f.Code, func(i api.Instr) bool { return i.Op == api.IRef && i.From.Local == 3 })
	f.Code[jump-1] = api.Instr{Op: api.IJump, N: jump + 2}
	f.Code[jump+2] = api.Instr{Op: api.IRef, To: api.Place{Local: 4}, From: api.Place{Local: 2}}
	if wrong := graph.Check(p, n); wrong != -1 {
		t.Fatal(wrong, tellInstr(*f, f.Code[wrong]))
	}
	lend := Lend(p, n)
	if got := tellSpans(*f, lend) + "; " + tellLoans(*f, lend); got != "r: [6-7] 5: [] 6: []; 5 &x [6]" {
		t.Error(got)
	}
	holdLend(t, "where nothing leads", p, n)
}

// P24, P25: a data type's regions in their order; what is fixed has the same regions as what it came from.
func TestRegionsOfData(t *testing.T) {
	lendsSo(t, "struct P<'a, 'b> { x: &'a int, y: &'b mut &'a int } fn f(n: int) -> int { let mut r = &n; let p = make P { x: &n, y: &mut r }; *p.y = &n; *r }",
		"r ref n; 4 ref n; 5 mut r; p make m4 m5; end 5; end 4; 6 ref n; p.1* use m6; end 6; 0 use cr*; end p; end r; end n; ret",
		"r: [1-9] p: [1-9] [4-7] 4: [1-9] 5: [3-7] [1-9] 6: [1-9]", "0 &n [1-9]; 1 &n [2-9]; 2 &mut r [3-7]; 6 &n [7-9]")
}
