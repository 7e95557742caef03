package graph

import (
	"math"
	"slices"
	"strings"
	"testing"

	"holdfast/api"
)

// P20: Clean, the locals and one more are the length of the code; otherwise the answer is 0, whatever the code is.
func TestClean(t *testing.T) {
	p := lowered(t, text)
	n := fnOf(p, "one")
	was := p.Fns[n]
	if got := Check(p, n); got != -1 {
		t.Fatal(got)
	}
	turn := func(want int, change func(f *api.FnDef)) {
		t.Helper()
		f := was
		f.Code = slices.Clone(was.Code)
		change(&f)
		q := p
		q.Fns = slices.Clone(p.Fns)
		q.Fns[n] = f
		if got := Check(q, n); got != want {
			t.Errorf("%d, not %d", got, want)
		}
	}
	for _, clean := range []int{0, -1, 1, was.Clean - 1, was.Clean + 1, len(was.Code), math.MaxInt, math.MinInt, -len(was.Code)} {
		turn(0, func(f *api.FnDef) { f.Clean = clean })
	}
	turn(0, func(f *api.FnDef) { f.Code = nil })
	turn(0, func(f *api.FnDef) { f.Code, f.Clean = nil, 0 })
	turn(0, func(f *api.FnDef) { f.Code, f.Clean = f.Code[f.Clean:], 0 })
	turn(0, func(f *api.FnDef) { f.Code = f.Code[:len(f.Code)-1] })
	turn(0, func(f *api.FnDef) { f.Code = append(f.Code, api.Instr{Op: api.IResume}) })
	turn(0, func(f *api.FnDef) { f.Code, f.Clean = f.Code[:f.Clean], 0 })
	// From Clean on the locals end, the last one first, then IResume.
	for at := was.Clean; at < len(was.Code)-1; at++ {
		turn(at, func(f *api.FnDef) { f.Code[at].N++ })
		turn(at, func(f *api.FnDef) { f.Code[at].N-- })
		turn(at, func(f *api.FnDef) { f.Code[at].Op = api.IResume })
		turn(at, func(f *api.FnDef) { f.Code[at].Op = api.IJump })
	}
	last := len(was.Code) - 1
	turn(last, func(f *api.FnDef) { f.Code[last].Op = api.IEnd })
	turn(last, func(f *api.FnDef) { f.Code[last].Op = api.IRet })
	turn(was.Clean, func(f *api.FnDef) {
		slices.Reverse(f.Code[f.Clean:last])
	})
	// Nothing else of them counts.
	turn(-1, func(f *api.FnDef) {
		for at := f.Clean; at < len(f.Code); at++ {
			i := &f.Code[at]
			i.At, i.M, i.To, i.From, i.Args, i.Types = -5, 7, api.Place{Local: 99}, api.Place{Local: -1}, []api.Oper{{Kind: 9}}, []api.Type{{Kind: 99}}
		}
		f.Code[last].N = 12
	})
	// Of several the first one counts; what stands ahead of Clean does so last.
	turn(1, func(f *api.FnDef) { f.Code[last].Op, f.Code[1].Op, f.Code[3].Op = 0, 77, 78 })
	turn(last, func(f *api.FnDef) { f.Code[last].Op, f.Code[f.Clean-1] = api.IRet, api.Instr{Op: api.IEnd, N: 1} })
	turn(was.Clean, func(f *api.FnDef) { f.Code[f.Clean].N, f.Code[f.Clean-1] = 0, api.Instr{Op: api.IEnd, N: 1} })
}

// P20: ahead of Clean stands an IJump, IRet or IPanic.
func TestLastOne(t *testing.T) {
	p := lowered(t, text)
	n := fnOf(p, "f")
	w := writer{t, p.Fns[n]}
	for written, well := range map[string]bool{"_ ret": true, "_ panic": true, "_ jump#0": true, "_ jump#1": true, "_ end#1": false, "i use #1": false, "_ if true": false, "e call#0": false} {
		q := p
		q.Fns = slices.Clone(p.Fns)
		i := w.instr(written)
		i.N = map[bool]int{true: fnOf(p, "zero"), false: i.N}[i.Op == api.ICall]
		q.Fns[n] = cleaned(p.Fns[n], api.Instr{Op: api.IJump, N: 1}, i)
		want := map[bool]int{true: -1, false: 1}[well]
		if got := Check(q, n); got != want {
			t.Errorf("%q: %d", written, got)
		}
		q.Fns[n] = cleaned(p.Fns[n], i)
		if got := Check(q, n); i.Op != api.IJump && got != min(want, 0) {
			t.Errorf("%q alone: %d", written, got)
		}
	}
}

// P20: the type of a place may double with each step: it is one all the same.
func TestHugeTypes(t *testing.T) {
	for _, depth := range []int{4, 5, 30, 500} {
		// Of so many steps the type has more parts than can be counted.
		at := func(more int) string { return "l" + strings.Repeat(":1.1*", depth+more) }
		holds(t, true, "i tag @"+at(0), at(0)+":1.0 use m"+at(0)+":1.0", at(0)+" use m"+at(0), at(1)+":1.0 tuple m"+at(0)+":1.0 m"+at(0)+":1.0", at(1)+":1.0 tuple m"+at(1)+":1.0.0 m"+at(0)+":1.0", "i use c"+at(0)+":1.0"+strings.Repeat(".1", depth))
		holds(t, false, "i tag @"+at(0)+":1.0", at(0)+":1.0 use m"+at(1)+":1.0", at(0)+" use c"+at(0), at(0)+" use m"+at(1), at(1)+":1.0 tuple m"+at(0)+":1.0 m"+at(1)+":1.0", "i use c"+at(0)+":1.0"+strings.Repeat(".1", depth+1), "i use c"+at(0)+":1.0"+strings.Repeat(".1", depth-1))
		// Copy are those with at most MaxParts parts.
		holds(t, depth < 5, at(0)+":1.0 use c"+at(0)+":1.0")
	}
}

// P1: functions that are not there, programs that lack what they speak of: nothing panics.
func TestNothingThere(t *testing.T) {
	p := lowered(t, text)
	for _, n := range []int{-1, len(p.Fns), math.MaxInt, math.MinInt} {
		if got := Check(p, n); got != 0 {
			t.Error(n, got)
		}
	}
	if got := Check(api.Program{}, 0); got != 0 {
		t.Error(got)
	}
	for n := range p.Fns {
		Check(api.Program{Fns: p.Fns}, n)
		q := lowered(t, text)
		q.Fns[n].Sig = api.Sig{}
		for f := range q.Fns {
			Check(q, f)
		}
	}
}

// P2, P21: what is lowered is well-formed, and is not changed when it is looked at.
func TestLoweredCode(t *testing.T) {
	for _, written := range []string{text, busy} {
		p, again := lowered(t, written), lowered(t, written)
		for n := range p.Fns {
			if got := Check(p, n); got != -1 {
				t.Errorf("function %d: %d", n, got)
			}
		}
		if !same(p, again) {
			t.Error("the program is another one")
		}
	}
}
