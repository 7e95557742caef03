package lower

import (
	"fmt"
	"math/rand"
	"slices"
	"testing"

	"holdfast/api"
	"holdfast/check"
	"holdfast/graph"
	"holdfast/scope"
	"holdfast/syntax"
)

// made is the typed program of a made text, if it has one: it may be too long, or a type in it may be told by nothing but what goes elsewhere.
func made(text string) (api.Program, bool) {
	n, fault := syntax.Parse(text)
	if fault.Kind != api.OK {
		return api.Program{}, false
	}
	p, fault := scope.Items(n)
	if fault.Kind != api.OK {
		return api.Program{}, false
	}
	p, fault = check.Check(p)
	return p, fault.Kind == api.OK
}

// P19: the code of made functions does what their bodies say: it tells the same, its variables end in the same order with the same values, it gives the same or panics where they do.
func TestMadeFunctions(t *testing.T) {
	seen := map[string]int{}
	for seed := range int64(2000) {
		m := &texter{Rand: rand.New(rand.NewSource(seed)), left: 10 + int(seed%50)}
		text := m.text()
		p, ok := made(text)
		if !ok {
			seen["refused"]++
			continue
		}
		code, fault := Lower(p)
		if fault.Kind == api.ErrMany {
			seen["long"]++
			continue
		}
		holdCode(t, text, code)
		for _, n := range []int{0, 1, 5} {
			args := func() []any { return []any{n, n == 1, manyOf(0, n+1, n == 5)} }
			want, got := &world{p: p}, &world{p: code}
			wanted, does := want.mean(0, args())
			given, did := got.run(0, args())
			if show(wanted) != show(given) || does != did || !slices.Equal(want.told, got.told) {
				t.Fatalf("%q of %d:\n%s %v %q\nnot\n%s %v %q", text, n, show(given), did, got.told, show(wanted), does, want.told)
			}
			seen[fmt.Sprint("returns ", did)]++
			seen["told"] += len(got.told)
		}
	}
	// Without these there would be nothing to see.
	if seen["returns true"] < 4000 || seen["returns false"] < 150 || seen["told"] < 50000 {
		t.Error(seen)
	}
}

// P19, P21: code is well-formed; all of it can come about; when a function returns, nothing but local 0 has something.
func holdCode(t *testing.T, text string, p api.Program) {
	t.Helper()
	for n, f := range p.Fns {
		if at := graph.Check(p, n); at != -1 {
			t.Fatalf("%q: function %d is well-formed up to %d", text, n, at)
		}
		holdClean(t, text, f)
		for at, there := range left(f) {
			if slices.Contains(there, -1) {
				t.Fatalf("%q: nothing leads to instruction %d of function %d", text, at, n)
			}
			if f.Code[at].Op == api.IRet && !slices.Equal(there, []int{0}) {
				t.Fatalf("%q: function %d has %v when it returns at %d", text, n, there, at)
			}
		}
	}
}
