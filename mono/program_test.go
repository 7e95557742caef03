package mono

import (
	"fmt"
	"slices"
	"strings"
	"testing"

	"holdfast/api"
	"holdfast/check"
	"holdfast/graph"
	"holdfast/lower"
	"holdfast/owns"
	"holdfast/scope"
	"holdfast/syntax"
)

// coded is the program of a text with code, if it has one.
func coded(text string) (api.Program, api.Fault) {
	n, fault := syntax.Parse(text)
	if fault.Kind != api.OK {
		return api.Program{}, fault
	}
	p, fault := scope.Items(n)
	if fault.Kind != api.OK {
		return api.Program{}, fault
	}
	p, fault = check.Check(p)
	if fault.Kind != api.OK {
		return api.Program{}, fault
	}
	return lower.Lower(p)
}

// lowered is the program of a text, which has code.
func lowered(t *testing.T, text string) api.Program {
	t.Helper()
	p, fault := coded(text)
	if fault.Kind != api.OK {
		t.Fatalf("%q: no code: %v at %.30q", text, fault, text[min(fault.At, len(text)):])
	}
	return p
}

// held is what Mono answers, which is held against the oracle and against what follows of all answers.
func held(t *testing.T, text string, p api.Program) (api.Program, api.Fault) {
	t.Helper()
	q, fault := Mono(p)
	want, wantFault := slow(p)
	if fault != wantFault {
		t.Errorf("%q: %v, not %v", text, fault, wantFault)
	} else if got, want := fmt.Sprintf("%+v", q), fmt.Sprintf("%+v", want); got != want {
		t.Errorf("%q: %s\nnot %s", text, got, want)
	}
	// P28: no fault but ErrMany; what owns lets through once it lets through again.
	if fault.Kind != api.OK && fault.Kind != api.ErrMany {
		t.Errorf("%q: %v", text, fault)
	}
	if fault.Kind == api.OK && owns.Check(p).Kind == api.OK && owns.Check(q).Kind != api.OK {
		t.Errorf("%q: %v", text, owns.Check(q))
	}
	// P21: each instance is well-formed.
	for n := range q.Fns {
		if wrong := graph.Check(q, n); wrong != -1 {
			t.Errorf("%q: function %d, instruction %d", text, n, wrong)
		}
	}
	return q, fault
}

// instances is the program of the instances of a text within module main. It has no fault.
func instances(t *testing.T, body string) api.Program {
	t.Helper()
	text := "mod main { " + body + " }"
	q, fault := held(t, text, lowered(t, text))
	if fault != (api.Fault{}) {
		t.Errorf("%q: %v at %.30q", text, fault, text[fault.At:])
	}
	return q
}

// refuses looks whether a text within module main is refused, at the place that is marked by @ in it. Without one it is not.
func refuses(t *testing.T, body string) {
	t.Helper()
	text := "mod main { " + body + " }"
	at := strings.Index(text, "@")
	text = strings.Replace(text, "@", "", 1)
	want := api.Fault{Kind: api.ErrMany, At: at}
	if at < 0 {
		want = api.Fault{}
	}
	q, fault := held(t, text, lowered(t, text))
	if fault != want {
		t.Errorf("%q: %v, not %v", text, fault, want)
	}
	if none := fmt.Sprint(api.Program{}); fault.Kind != api.OK && fmt.Sprint(q) != none {
		t.Errorf("%q: there is something beside the fault: %v", text, q)
	}
}

// tellType writes a type in short: T and D for type parameters and data types, std's by their names; each lifetime that is not 0 is told.
func tellType(t api.Type) string {
	lives := ""
	for _, life := range t.Lives {
		if life != 0 {
			lives += fmt.Sprint("'", life)
		}
	}
	args := tellTypes(t.Args)
	switch t.Kind {
	case api.TyInt, api.TyBool:
		return []string{"int", "bool"}[t.Kind-api.TyInt]
	case api.TyTuple:
		return "(" + args + ")"
	case api.TyParam:
		return fmt.Sprint("T", t.N)
	case api.TyData:
		return fmt.Sprint("D", t.N, lives, "<", args, ">")
	case api.TyLib:
		return api.StdType(t.N) + lives + "<" + args + ">"
	case api.TyRef:
		return "&" + lives + args
	case api.TyMut:
		return "&mut " + lives + args
	case api.TyFn:
		return fmt.Sprint("fn", t.N, lives, "(", args, ")")
	}
	return "?"
}

func tellTypes(types []api.Type) string {
	var out []string
	for _, t := range types {
		out = append(out, tellType(t))
	}
	return strings.Join(out, ",")
}

// tellNeeds writes what an instruction that has to do with functions, data types or std's functions needs: its name, N, /M and types.
func tellNeeds(i api.Instr) string {
	words := map[int]string{api.IMake: "make", api.ICall: "call", api.ILib: "lib", api.IMethod: "method", api.IClos: "clos", api.ISpawn: "spawn"}
	word, ok := words[i.Op]
	if !ok {
		if len(i.Types) > 0 {
			return fmt.Sprint("?", i.Op)
		}
		return ""
	}
	out := " " + word + fmt.Sprint(i.N)
	if i.Op == api.ILib && i.N >= 0 && i.N < api.Libs {
		out = " " + api.StdFn(i.N)
	}
	if i.M != 0 {
		out += fmt.Sprint("/", i.M)
	}
	if len(i.Types) > 0 {
		out += "<" + tellTypes(i.Types) + ">"
	}
	return out
}

// tellFn writes a function: its name or its kind, its parameters, what it gives, what it has captured, then what its instructions need.
func tellFn(f api.FnDef) string {
	name := f.Name
	if f.Kind != api.FnPlain {
		name += []string{"fn", "mut", "once", "thread"}[f.Kind]
	}
	out := name + "(" + tellTypes(f.Sig.Ins) + ")" + tellType(f.Sig.Out)
	if len(f.Env) > 0 {
		out += "[" + tellTypes(f.Env) + "]"
	}
	out += ":"
	for _, i := range f.Code {
		out += tellNeeds(i)
	}
	return out
}

// tells holds the instances of a text within module main against what they must be in short, one after the other; then the droppers.
func tells(t *testing.T, body string, want ...string) api.Program {
	t.Helper()
	q := instances(t, body)
	var got []string
	for _, f := range q.Fns {
		got = append(got, tellFn(f))
	}
	for _, d := range q.Drops {
		got = append(got, fmt.Sprint("drop D", d.Data, "<", tellTypes(d.Types), ">: ", d.Fn))
	}
	if !slices.Equal(got, want) {
		t.Errorf("%q:\n%s\nnot\n%s", body, strings.Join(got, "\n"), strings.Join(want, "\n"))
	}
	return q
}
