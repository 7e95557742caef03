package check

import (
	"fmt"
	"reflect"
	"strings"
	"testing"

	"holdfast/api"
	"holdfast/scope"
	"holdfast/syntax"
)

// items is the program that a text has, its bodies not yet typed.
func items(t *testing.T, text string) api.Program {
	t.Helper()
	n, fault := syntax.Parse(text)
	if fault.Kind != api.OK {
		t.Fatalf("%q: no text: %v", text, fault)
	}
	p, fault := scope.Items(n)
	if fault.Kind != api.OK {
		t.Fatalf("%q: no program: %v", text, fault)
	}
	return p
}

// checked is the typed program of a text that has one.
func checked(t *testing.T, text string) api.Program {
	t.Helper()
	given := items(t, text)
	p, fault := Check(given)
	if fault != (api.Fault{}) {
		t.Fatalf("%q: %v", text, fault)
	}
	hold(t, text, given, p)
	return p
}

// others is a module whose items the tests speak of.
const others = "mod k { pub struct S { pub a: int, b: bool } pub copy struct G<T> { pub g: T, pub h: Option<T> } struct Hid { } pub copy enum E { A, B(int), C(int, bool) } pub enum Void { } pub enum L<'a, T> { Nil, Cons(&'a T, Box<L<'a, T> >) } " +
	"pub trait T1 { fn t(self: &Self) -> int; fn u(self: Self, x: Self) -> Self; } impl T1 for int { fn t(self: &int) -> int { *self } fn u(self: int, x: int) -> int { x } } impl<T: Copy> T1 for G<T> { fn t(self: &Self) -> int { 1 } fn u(self: Self, x: Self) -> Self { x } } " +
	"pub fn id<T>(x: T) -> T { x } pub fn none<T>() -> Option<T> { Option::None } pub fn cp<T: Copy>(x: &T) -> T { *x } pub fn two<T: T1, U: Send + Copy>(x: T, y: U) -> (T, U) { (x, y) } pub fn len2(x: &int, y: &mut bool) { } fn hid() { } } "

// inMain is a text whose main has the given block, with items beside it.
func inMain(own, block string) string {
	return others + "mod main { use k::E; use k::T1; " + own + " fn main(n: int) -> int { " + block + " } }"
}

// refuses looks whether texts are refused with a fault of a kind: a `@`, which is taken out first, stands at its place.
func refuses(t *testing.T, kind api.Errno, texts ...string) {
	t.Helper()
	for _, marked := range texts {
		good, rest, found := strings.Cut(marked, "@")
		if !found || strings.Contains(rest, "@") {
			t.Fatalf("%q: one place has to be marked", marked)
		}
		want := api.Fault{Kind: kind, At: len(good)}
		p, fault := Check(items(t, good+rest))
		if fault != want || !reflect.DeepEqual(p, api.Program{}) {
			t.Errorf("%q: %v, not %v", marked, fault, want)
		}
	}
}

// refusesBlocks looks whether blocks of main are refused.
func refusesBlocks(t *testing.T, kind api.Errno, own string, blocks ...string) {
	t.Helper()
	for _, block := range blocks {
		refuses(t, kind, inMain(own, block))
	}
}

// passes looks whether blocks of main have typed bodies.
func passes(t *testing.T, own string, blocks ...string) {
	t.Helper()
	for _, block := range blocks {
		text := inMain(own, block)
		given := items(t, text)
		p, fault := Check(given)
		if fault != (api.Fault{}) {
			t.Errorf("%q: %v", block, fault)
			continue
		}
		hold(t, text, given, p)
	}
}

// tellType writes a type in short: ! for TyNever, T and D for type parameters and data types, std's by their names.
func tellType(t api.Type) string {
	args := tellTypes(t.Args)
	lives := ""
	for _, life := range t.Lives {
		lives += fmt.Sprint("'", life)
	}
	switch t.Kind {
	case api.TyNever:
		return "!"
	case api.TyInt, api.TyBool:
		return []string{"int", "bool"}[t.Kind-api.TyInt]
	case api.TyTuple:
		return "(" + args + ")"
	case api.TyParam:
		return fmt.Sprint("T", t.N)
	case api.TyData:
		return fmt.Sprint("D", t.N, lives, "<", args, ">")
	case api.TyLib:
		return api.StdType(t.N) + lives + "<" + args + ">"
	case api.TyRef:
		return "&" + lives + " " + args
	case api.TyMut:
		return "&mut" + lives + " " + args
	}
	return fmt.Sprint("fn", t.N, lives, "(", args, ")")
}

func tellTypes(types []api.Type) string {
	var out []string
	for _, t := range types {
		out = append(out, tellType(t))
	}
	return strings.Join(out, ", ")
}

// nodeNames are the kinds of nodes that typed bodies have.
var nodeNames = map[int]string{
	api.EInt: "Int", api.EBool: "Bool", api.ETuple: "Tuple", api.EField: "Field", api.EDeref: "Deref", api.ERef: "Ref", api.EUn: "Un", api.EBin: "Bin", api.EAnd: "And", api.EOr: "Or", api.EAssign: "Assign", api.EIf: "If", api.EMatch: "Match", api.Arm: "Arm",
	api.EWhile: "While", api.ELoop: "Loop", api.EBreak: "Break", api.ENext: "Next", api.EReturn: "Return", api.EPanic: "Panic", api.EBlock: "Block", api.ELet: "Let", api.EMake: "Make", api.EInit: "Init", api.EClosure: "Closure", api.ECapture: "Capture", api.ESpawn: "Spawn",
	api.PAny: "PAny", api.PBind: "PBind", api.PInt: "PInt", api.PBool: "PBool", api.PTuple: "PTuple", api.PCase: "PCase", api.EVar: "Var", api.ECap: "Cap", api.EFn: "Fn", api.ELib: "Lib", api.EMethod: "Method", api.ECase: "Case", api.EInvoke: "Invoke",
}

// tell writes a typed node: its kind, #N, /M, .Name where these are not zero, its Args, its type, its kids.
func tell(n api.Node) string {
	out := nodeNames[n.Kind]
	if out == "" {
		out = fmt.Sprint("?", n.Kind)
	}
	if n.N != 0 {
		out += fmt.Sprint("#", n.N)
	}
	if n.M != 0 {
		out += fmt.Sprint("/", n.M)
	}
	if n.Name != "" {
		out += "." + n.Name
	}
	if len(n.Args) > 0 {
		out += "<" + tellTypes(n.Args) + ">"
	}
	if !reflect.DeepEqual(n.Type, api.Type{}) {
		out += ":" + tellType(n.Type)
	}
	var kids []string
	for _, kid := range n.Kids {
		kids = append(kids, tell(kid))
	}
	if len(kids) > 0 {
		out += "[" + strings.Join(kids, " ") + "]"
	}
	return out
}

// tellVars writes variables.
func tellVars(vars []api.Local) string {
	var out []string
	for _, v := range vars {
		mut := ""
		if v.Mut {
			mut = "mut "
		}
		out = append(out, mut+v.Name+":"+tellType(v.Type))
	}
	return strings.Join(out, ", ")
}

// tellFn writes a function, but for its body.
func tellFn(f api.FnDef) string {
	return fmt.Sprintf("%q mod%d @%d pub %v impl %d kind %d types %v lives %d outs %v gens %v (%s)->%s env (%s) vars (%s)", f.Name, f.Mod, f.At, f.Pub, f.Impl, f.Kind, f.Types, f.Sig.Lives, f.Sig.Outs, f.Sig.Gens, tellTypes(f.Sig.Ins), tellType(f.Sig.Out), tellTypes(f.Env), tellVars(f.Vars))
}

// typed holds what the last statements of main's block are told as against what they must be.
func typed(t *testing.T, own, block string, want ...string) {
	t.Helper()
	p := checked(t, inMain(own, block))
	kids := p.Fns[p.Main].Body.Kids
	for i, told := range want {
		if got := tell(kids[len(kids)-len(want)+i]); got != told {
			t.Errorf("%q:\n%s\nnot\n%s", block, got, told)
		}
	}
}
