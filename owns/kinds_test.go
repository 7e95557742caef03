package owns

import (
	"fmt"
	"slices"
	"strings"
	"testing"

	"holdfast/api"
)

// changed tells which paths of a function stand otherwise than at its beginning; "=" if none does, "." if nothing leads there.
func changed(f api.FnDef, flow api.Flow, n int) string {
	var out []string
	for k, path := range flow.Paths {
		init, hole := flow.Init[n][k], flow.Hole[n][k]
		switch was := path.Local >= 1 && path.Local <= len(f.Sig.Ins); {
		case !init && !hole:
			return "."
		case init && hole:
			out = append(out, "?"+tellPlace(f, path))
		case init && !was:
			out = append(out, "+"+tellPlace(f, path))
		case hole && was:
			out = append(out, "-"+tellPlace(f, path))
		}
	}
	if len(out) == 0 {
		return "="
	}
	return strings.Join(out, " ")
}

// namesOf tells for which locals something holds: "all" if it does for all.
func namesOf(f api.FnDef, row []bool) string {
	if !slices.Contains(row, false) {
		return "all"
	}
	var out []string
	for n, yes := range row {
		if yes {
			out = append(out, tellPlace(f, api.Place{Local: n}))
		}
	}
	return strings.Join(out, " ")
}

// P22: what each kind of instruction does: how paths stand behind it, and at Clean; which locals are live ahead of it, and which may be dropped, if IRet follows.
func TestKinds(t *testing.T) {
	p := lowered(t, items)
	bud := slices.IndexFunc(p.Fns, func(f api.FnDef) bool { return f.Kind == api.FnFn })
	thread := slices.IndexFunc(p.Fns, func(f api.FnDef) bool { return f.Kind == api.FnSpawn })
	eat := fnOf(p, "eat")
	for _, c := range []struct{ instr, next, clean, live, drop string }{
		{"k use #1", "+k", ".", "0", ""},
		{"k use ci", "+k", ".", "0 i", ""},
		{"k use mi", "-i +k", ".", "0 i", ""},
		{"j use ci", "=", ".", "0 i", ""},
		{"j use cj", "=", ".", "0 j", ""},
		{"j use mj", "=", ".", "0 j", ""},
		{"0 use ci", "+0", ".", "i", ""},
		{"g use mb", "-b +g", ".", "0 b", ""},
		{"q.0 use mb", "-b", ".", "0 b q", ""},
		{"s.1.0 use mb", "-b +s.1.0", ".", "0 b s", ""},
		{"z:1.0 use mb", "-b +z:1.0", ".", "0 b z", ""},
		{"g use mq.0", "+g -q.0", ".", "0 q", ""},
		{"g use mq.1.0", "+g -q.1.0", ".", "0 q", ""},
		{"g use me:2.0.0", "+g -e:2.0.0", ".", "0 e", ""},
		{"k use cq.1.1", "+k", ".", "0 q", ""},
		{"k use co*.1.1", "+k", ".", "0 o", ""},
		{"m*.0 use mb", "-b", ".", "0 b m", ""},
		{"g use mr*.0", "+g", ".", "0 r", ""},
		{"g use mo*.1.0", "+g", ".", "0 o", ""},
		{"u* use mo*.0", "=", ".", "0 o u", ""},
		{"k bin#0 ci cj", "+k", "=", "0 i j", "all"},
		{"k bin#1 mi #2", "-i +k", "-i", "0 i", "all"},
		{"k bin#2 #1 mj", "-j +k", "-j", "0 j", "all"},
		{"k bin#3 mi mj", "-i -j +k", "-i -j", "0 i j", "all"},
		{"j bin#4 mj #2", "=", "-j", "0 j", "all"},
		{"q.1.1 bin#0 ci cj", "=", "=", "0 i j q", "all"},
		{"l bin#5 ci cj", "+l", ".", "0 i j", ""},
		{"l bin#6 mi #2", "-i +l", ".", "0 i", ""},
		{"l bin#7 ci #2", "+l", ".", "0 i", ""},
		{"l bin#8 ci #2", "+l", ".", "0 i", ""},
		{"l bin#9 ci #2", "+l", ".", "0 i", ""},
		{"l bin#10 ci #2", "+l", ".", "0 i", ""},
		{"k un#11 mi", "-i +k", "-i", "0 i", "all"},
		{"l un#12 my", "-y +l", ".", "0 y", ""},
		{"ri ref @b", "+ri", ".", "0 b", ""},
		{"ri ref @q.1.0", "+ri", ".", "0 q", ""},
		{"ri ref @r*.0", "+ri", ".", "0 r", ""},
		{"mi mut @w", "+mi", ".", "0 w", ""},
		{"mp mut @m*", "+mp", ".", "0 m", ""},
		{"k tag @e", "+k", ".", "0 e", ""},
		{"em tuple", "+em", ".", "0", ""},
		{"tu tuple mb mw", "-b -w +tu", ".", "0 b w", ""},
		{"tu tuple mq.0 mq.1.0", "+tu -q.0 -q.1.0", ".", "0 q", ""},
		{fmt.Sprint("dd make#", p.Fns[fnOf(p, "f")].Vars[9].Type.N, " mb ci"), "-b +dd", ".", "0 i b", ""},
		{fmt.Sprint("k call#", eat, " mb mi"), "-i -b +k", "-i -b", "0 i b", "all"},
		{fmt.Sprint("j call#", eat, " mq.1.0 cj"), "-q.1.0", "-q.1.0", "0 j q", "all"},
		{"g lib#0 <i> mi", "-i +g", ".", "0 i", ""},
		{"k lib#1 <i> mb", "-b +k", ".", "0 b", ""},
		{"ii lib#6 <i> crv mi", "-i +ii", "-i", "0 i rv", "all"},
		{"k lib#5 <i> crv", "+k", ".", "0 rv", ""},
		{"k method#4/0 <p> cr mb", "-b +k", "-b", "0 b r", "all"},
		{fmt.Sprint("tc clos#", bud, " mb"), "-b +tc", ".", "0 b", ""},
		{fmt.Sprint("th spawn#", thread, " mb"), "-b +th", ".", "0 b", ""},
		{"k invoke#0 crc mi", "-i +k", "-i", "0 i rc", "all"},
		{"w put mb", "-b", "-b", "0 b", "all"},
		{"bb put mb", "-b +bb", "-b +bb", "0 b", "all"},
		{"w put mw", "=", "=", "0 w", "all"},
		{"j put ci", "=", ".", "0 i", "j"},
		{"k put mi", "-i +k", ".", "0 i", "k"},
		{"q.0 put mb", "-b", "-b", "0 b q", "all"},
		{"s.1.0 put mb", "-b +s.1.0", "-b +s.1.0", "0 b s", "all"},
		{"q.1.1 put ci", "=", ".", "0 i q", ""},
		{"m*.0 put mb", "-b", "-b", "0 b m", "all"},
		{"m*.1.1 put mi", "-i", ".", "0 i m", ""},
		{"_ end#b", "-b", "-b", "0", "all"},
		{"_ end#g", "=", "=", "0", "all"},
		{"_ end#i", "-i", ".", "0", "i"},
		{"_ end#k", "=", ".", "0", "k"},
		{"_ end#r", "-r", ".", "0", "r"},
		{"_ jump#1", "=", ".", "0", ""},
		{"_ if#1 cy", "=", ".", "0 y", ""},
		{"_ if#1 my", "-y", ".", "0 y", ""},
		{"_ if#1 true", "=", ".", "0", ""},
		{"_ ret", ".", ".", "0", ""},
		{"_ panic", ".", "=", "", "all"},
	} {
		q := coded(t, p, c.instr, "_ ret")
		n := fnOf(q, "f")
		f, flow := q.Fns[n], Flow(q, n)
		if got := [4]string{changed(f, flow, 1), changed(f, flow, f.Clean), namesOf(f, flow.Live[0]), namesOf(f, flow.Drop[0])}; got != [4]string{c.next, c.clean, c.live, c.drop} {
			t.Errorf("%s: %q, not %q", c.instr, got, [4]string{c.next, c.clean, c.live, c.drop})
		}
		if changed(f, flow, 0) != "=" {
			t.Errorf("%s: ahead of it %s", c.instr, changed(f, flow, 0))
		}
	}
}

// P22: an IEnd and an IPut may panic just if what is dropped may own something.
func TestPanicsOfDrops(t *testing.T) {
	wide := func(parts int) string { return "(" + strings.Repeat("int, ", parts-2) + "int)" }
	const more = "struct Big { a: S2<S3>, b: S4 } struct S2<A> { x: (A, A) } struct S3 { x: int } struct S4 { x: &'static D } "
	text := func(types []string) string {
		params := ""
		for k, written := range types {
			params += fmt.Sprintf("p%d: %s, ", k, written)
		}
		return "mod main { struct D { v: int } impl Drop for D { fn drop(self: &mut D) { } } struct W { x: (int, (bool, D)) } copy enum C<A> { One(A), Two } " + more + "fn f<T, U: Copy>(" + params + "e: int) { } fn main(n: int) -> int { n } }"
	}
	for _, c := range []struct {
		owns  bool
		types []string
	}{
		{false, []string{"int", "bool", "()", "(int, bool)", "&D", "&mut T", "U", "C<U>", "C<int>", "Slice<D>", "SliceMut<D>", "Big", wide(60), "&fn() -> int", "Option<&mut D>"}},
		{true, []string{"T", "(U, T)", "C<T>", "D", "W", "C<D>", "Box<int>", "Vec<U>", "Rc<int>", "Ref<int>", "Cell<int>", "fn() -> int", "fn once() -> int", wide(61), "&" + wide(60), "Option<Box<int>>"}},
	} {
		p := lowered(t, text(c.types))
		for k, written := range c.types {
			for _, instr := range []string{fmt.Sprintf("_ end#p%d", k), fmt.Sprintf("p%d put mp%d", k, k)} {
				q := coded(t, p, instr, "_ jump#1")
				n := fnOf(q, "f")
				f, flow := q.Fns[n], Flow(q, n)
				if got := changed(f, flow, f.Clean) != "."; got != c.owns {
					t.Errorf("%s: %s: %v", written, instr, got)
				}
			}
		}
	}
}

// P22: so it is with a type that leads to more than MaxAsk others.
func TestPanicsOfManyTypes(t *testing.T) {
	for _, many := range []int{58, 59, 60, 61} {
		text := "mod main { struct L0 { } "
		for n := 1; n < many; n++ {
			text += fmt.Sprintf("struct L%d { x: L%d } ", n, n-1)
		}
		p := lowered(t, text+fmt.Sprintf("fn f(x: L%d) { } fn main(n: int) -> int { n } }", many-1))
		q := coded(t, p, "_ end#x", "_ jump#1")
		n := fnOf(q, "f")
		f, flow := q.Fns[n], Flow(q, n)
		if got := changed(f, flow, f.Clean) != "."; got != (many > api.MaxAsk) {
			t.Errorf("%d types: %v", many, got)
		}
	}
}

// P22: of std's functions just those panic of which it is told.
func TestPanicsOfLibs(t *testing.T) {
	p := lowered(t, items)
	n := fnOf(p, "f")
	for lib := range api.Libs {
		f := p.Fns[n]
		f.Code = []api.Instr{{Op: api.ILib, N: lib}, {Op: api.IRet}, {Op: api.IResume}}
		f.Clean = 2
		q := p
		q.Fns = slices.Clone(p.Fns)
		q.Fns[n] = f
		flow := Flow(q, n)
		if got := changed(f, flow, 2); (got == "=") != api.StdPanics(lib) || (got == ".") == api.StdPanics(lib) {
			t.Errorf("%s: %s", api.StdFn(lib), got)
		}
	}
}
