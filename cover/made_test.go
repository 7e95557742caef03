package cover

import (
	"fmt"
	"math/rand"
	"slices"
	"testing"

	"holdfast/api"
	"holdfast/scope"
)

// maker makes up types and patterns of them.
type maker struct {
	*rand.Rand
	program api.Program
}

// made makes up a type of a program with the items of the tests: enums and others, ints, bools, tuples.
func (m maker) made(depth int) api.Type {
	switch n := m.Intn(8); {
	case n == 0:
		return api.Type{Kind: api.TyInt}
	case n < 3 || depth == 0:
		return api.Type{Kind: api.TyBool}
	case n == 3:
		return m.sealed(depth)
	case n == 4:
		return api.Type{Kind: api.TyTuple, Args: m.several(m.Intn(4), depth)}
	}
	data := m.Intn(len(m.program.Datas))
	return api.Type{Kind: api.TyData, N: data, Args: m.several(m.program.Datas[data].Gens, depth)}
}

func (m maker) several(count, depth int) []api.Type {
	var out []api.Type
	for range count {
		out = append(out, m.made(depth-1))
	}
	return out
}

// sealed is a type into which no pattern looks.
func (m maker) sealed(depth int) api.Type {
	switch m.Intn(4) {
	case 0:
		return api.Type{Kind: api.TyParam}
	case 1:
		return api.Type{Kind: api.TyRef, Lives: []int{0}, Args: m.several(1, depth)}
	case 2:
		return api.Type{Kind: api.TyFn, Lives: []int{0}, Args: m.several(2, depth)}
	}
	return api.Type{Kind: api.TyLib, N: api.LyBox, Args: m.several(1, depth)}
}

// pat makes up a pattern of a type.
func (m maker) pat(t api.Type) api.Pat {
	if m.Intn(3) == 0 || sizeOf(t) > api.MaxParts {
		return anything
	}
	switch t.Kind {
	case api.TyInt:
		return api.Pat{Kind: api.PInt, N: m.Intn(3) - 1}
	case api.TyBool:
		return is(m.Intn(2))
	case api.TyTuple:
		out := api.Pat{Kind: api.PTuple}
		for _, arg := range t.Args {
			out.Kids = append(out.Kids, m.pat(arg))
		}
		return out
	case api.TyData:
		return m.casePat(t)
	}
	return anything
}

func (m maker) casePat(t api.Type) api.Pat {
	d := m.program.Datas[t.N]
	if !d.Enum || len(d.Cases) == 0 {
		return anything
	}
	out := api.Pat{Kind: api.PCase, N: t.N, M: m.Intn(len(d.Cases))}
	for _, part := range d.Cases[out.M].Parts {
		out.Kids = append(out.Kids, m.pat(scope.Subst(part.Type, t.Args)))
	}
	return out
}

// tests counts the parts of a pattern that are not PAny.
func tests(p api.Pat) int {
	count := 1
	if p.Kind == api.PAny {
		count = 0
	}
	for _, kid := range p.Kids {
		count += tests(kid)
	}
	return count
}

// pats makes up patterns, no more than may be asked about.
func (m maker) pats(t api.Type) []api.Pat {
	var out []api.Pat
	left := api.MaxTests
	for range m.Intn(14) {
		p := m.pat(t)
		if p.Kind == api.PAny && m.Intn(8) > 0 {
			continue
		}
		if left -= tests(p); left < 0 {
			break
		}
		out = append(out, p)
	}
	return out
}

// P15, P16: made-up patterns, held against all values of their types, one by one. P2: what is handed in stays as it was.
func TestMade(t *testing.T) {
	items := enums + " enum Grow<T> { More(One<(T, T)>, No), Same(One<T>, bool), Stop((T, Hue)) } enum Far<T> { A(Grow<(T, T)>), B(Grow<One<T>>, Hue) } enum Void<T> { A(T, No), B(Either<No, T>) }"
	p := program(t, "mod main { "+items+" fn main(n: int) -> int { n } }")
	o := oracle{p, []int{-1, 0, 1, 2}}
	m := maker{rand.New(rand.NewSource(5)), p}
	held, full, none := 0, 0, 0
	for held < 30000 {
		of := m.made(4)
		values, ok := o.all(of)
		if !ok || sizeOf(of) > api.MaxParts {
			continue
		}
		held++
		pats := m.pats(of)
		before := fmt.Sprint(of, pats)
		idle, all := Arms(p, of, pats)
		wantIdle, wantAll := slowArms(values, pats)
		if !slices.Equal(idle, wantIdle) || all != wantAll {
			t.Fatalf("%v: %v: %v %v, not %v %v", of, pats, idle, all, wantIdle, wantAll)
		}
		for i := 1; i < len(pats); i++ {
			if got := Meet(p, of, pats[i-1], pats[i]); got != slowMeet(values, pats[i-1], pats[i]) {
				t.Fatalf("%v: %v, %v: %v", of, pats[i-1], pats[i], got)
			}
		}
		if after := fmt.Sprint(of, pats); after != before {
			t.Fatalf("%s: changed to %s", before, after)
		}
		if all && len(pats) > len(idle)+2 {
			full++
		}
		if len(values) == 0 {
			none++
		}
	}
	if full < 100 || none < 100 {
		t.Errorf("too few of what is to be tried: %d full, %d without values", full, none)
	}
}
