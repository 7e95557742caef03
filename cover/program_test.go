package cover

import (
	"strings"
	"testing"

	"holdfast/api"
	"holdfast/scope"
	"holdfast/syntax"
)

// enums are the items of most tests.
const enums = "enum Hue { Red, Green, Blue } enum Leaf { Bare, Num(int), Two(bool, Hue) } enum No { } enum Worse { A(No), B(int, No) } " +
	"enum Either<A, B> { Left(A), Right(B) } enum One<T> { Only(T) } enum Tree<T> { End, Fork(Box<Tree<T>>, T, Box<Tree<T>>) } " +
	"struct Held { none: No } struct Pair<T> { a: T, b: T }"

// matching is a match of a text: the type that is matched, and its patterns.
type matching struct {
	program api.Program
	t       api.Type
	pats    []api.Pat
}

// match makes a program of items, and of a function with a match: a type, and its arms with | between.
func match(t *testing.T, items, written, arms string) matching {
	t.Helper()
	text := ""
	for _, arm := range strings.Split(arms, "|") {
		if strings.TrimSpace(arm) != "" {
			text += arm + " => 0, "
		}
	}
	p := program(t, "mod main { "+items+" fn main(n: int) -> int { n } fn ask<T>(x: "+written+") -> int { match x { "+text+"} } }")
	fn := p.Fns[len(p.Fns)-1]
	var pats []api.Pat
	for _, arm := range fn.Body.Kids[0].Kids[1:] {
		pats = append(pats, patOf(t, p, arm.Kids[0]))
	}
	return matching{p, fn.Sig.Ins[0], pats}
}

// program is the program of a text that has one.
func program(t *testing.T, text string) api.Program {
	t.Helper()
	n, fault := syntax.Parse(text)
	if fault.Kind != api.OK {
		t.Fatalf("%q: no text: %v", text, fault)
	}
	p, fault := scope.Items(n)
	if fault.Kind != api.OK {
		t.Fatalf("%q: no program: %v", text, fault)
	}
	return p
}

// patOf is the pattern that a node of the tree writes.
func patOf(t *testing.T, p api.Program, n api.Node) api.Pat {
	t.Helper()
	out := api.Pat{Kind: n.Kind, N: n.N}
	if n.Kind == api.PCase {
		named, behind, wrong := scope.Find(p, 0, n.Name)
		if wrong != api.OK {
			t.Fatalf("%s: %v", n.Name, wrong)
		}
		out.N, out.M = named.N, variant(t, p.Datas[named.N], behind)
	}
	for _, kid := range n.Kids {
		out.Kids = append(out.Kids, patOf(t, p, kid))
	}
	return out
}

func variant(t *testing.T, d api.DataDef, name string) int {
	t.Helper()
	for m, c := range d.Cases {
		if c.Name == name {
			return m
		}
	}
	t.Fatalf("no variant %s of %s", name, d.Name)
	return -1
}

// anything takes all values.
var anything = api.Pat{Kind: api.PAny}

// tuple is a pattern of a tuple of some length that looks at a few of its parts.
func tuple(length int, kids map[int]api.Pat) api.Pat {
	out := api.Pat{Kind: api.PTuple}
	for i := range length {
		kid, ok := kids[i]
		if !ok {
			kid = anything
		}
		out.Kids = append(out.Kids, kid)
	}
	return out
}

// tupleOf is a tuple of some length of one type.
func tupleOf(length int, t api.Type) api.Type {
	out := api.Type{Kind: api.TyTuple}
	for range length {
		out.Args = append(out.Args, t)
	}
	return out
}

// is is the pattern of a bool.
func is(n int) api.Pat {
	return api.Pat{Kind: api.PBool, N: n}
}
