package lower

import (
	"fmt"
	"reflect"
	"slices"
	"strings"
	"testing"

	"holdfast/api"
	"holdfast/check"
	"holdfast/lexer"
	"holdfast/scope"
	"holdfast/syntax"
)

// typed is the program that a text has, with typed bodies.
func typed(t *testing.T, text string) api.Program {
	t.Helper()
	n, fault := syntax.Parse(text)
	if fault.Kind != api.OK {
		t.Fatalf("%q: no text: %v", text, fault)
	}
	p, fault := scope.Items(n)
	if fault.Kind != api.OK {
		t.Fatalf("%q: no program: %v", text, fault)
	}
	p, fault = check.Check(p)
	if fault.Kind != api.OK {
		t.Fatalf("%q: no types: %v", text, fault)
	}
	return p
}

// lowered is the program of a text with code.
func lowered(t *testing.T, text string) api.Program {
	t.Helper()
	p, fault := Lower(typed(t, text))
	if fault != (api.Fault{}) {
		t.Fatalf("%q: %v", text, fault)
	}
	return p
}

// tellType writes a type in short: T and D for type parameters and data types, std's by their names.
func tellType(t api.Type) string {
	args := tellTypes(t.Args)
	lives := ""
	for _, life := range t.Lives {
		lives += fmt.Sprint("'", life)
	}
	switch t.Kind {
	case api.TyInt, api.TyBool:
		return []string{"int", "bool"}[t.Kind-api.TyInt]
	case api.TyTuple:
		return "(" + args + ")"
	case api.TyParam:
		return fmt.Sprint("T", t.N)
	case api.TyData:
		return fmt.Sprint("D", t.N, lives, "<", args, ">")
	case api.TyLib:
		return api.StdType(t.N) + lives + "<" + args + ">"
	case api.TyRef:
		return "&" + lives + " " + args
	case api.TyMut:
		return "&mut" + lives + " " + args
	case api.TyFn:
		return fmt.Sprint("fn", t.N, lives, "(", args, ")")
	}
	return "?"
}

func tellTypes(types []api.Type) string {
	var out []string
	for _, t := range types {
		out = append(out, tellType(t))
	}
	return strings.Join(out, ", ")
}

// tellVars writes locals: `mut` for those that are.
func tellVars(vars []api.Local) string {
	var out []string
	for _, v := range vars {
		mut := ""
		if v.Mut {
			mut = "mut "
		}
		out = append(out, mut+v.Name+":"+tellType(v.Type))
	}
	return strings.Join(out, ", ")
}

// tellPlace writes a place: .N for StepField, :N.M for StepCase, * for StepDeref.
func tellPlace(p api.Place) string {
	out := fmt.Sprint(p.Local)
	for _, s := range p.Steps {
		switch s.Kind {
		case api.StepField:
			out += fmt.Sprint(".", s.N)
		case api.StepCase:
			out += fmt.Sprint(":", s.N, ".", s.M)
		default:
			out += "*"
		}
	}
	return out
}

func tellOper(o api.Oper) string {
	switch o.Kind {
	case api.OpCopy:
		return "c" + tellPlace(o.Place)
	case api.OpMove:
		return "m" + tellPlace(o.Place)
	case api.OpInt:
		return fmt.Sprint("#", o.N)
	}
	return fmt.Sprint("#", o.N == 1)
}

// tellInstr writes an instruction: what it gives, its name, N and /M if they are not zero, its types, where it takes from, its operands. Places that an instruction has not are those of local 0.
func tellInstr(i api.Instr) string {
	names := []string{"use", "bin", "un", "ref", "mut", "tuple", "make", "tag", "call", "lib", "method", "clos", "invoke", "spawn", "put", "end", "jump", "if", "ret", "panic", "resume"}
	out := names[i.Op]
	if i.Op <= api.IPut {
		out = tellPlace(i.To) + "=" + out
	} else if !reflect.DeepEqual(i.To, api.Place{}) {
		out += "?"
	}
	if i.N != 0 || i.Op == api.IEnd {
		out += fmt.Sprint(i.N)
	}
	if i.M != 0 {
		out += fmt.Sprint("/", i.M)
	}
	if len(i.Types) > 0 {
		out += "<" + tellTypes(i.Types) + ">"
	}
	if i.Op == api.IRef || i.Op == api.IMut || i.Op == api.ITag {
		out += " " + tellPlace(i.From)
	} else if !reflect.DeepEqual(i.From, api.Place{}) {
		out += "?"
	}
	for _, arg := range i.Args {
		out += " " + tellOper(arg)
	}
	return out
}

// tellCode writes the code of a function ahead of Clean, each instruction with the token at its place.
func tellCode(t *testing.T, text string, f api.FnDef) []string {
	t.Helper()
	tokens, _ := lexer.Tokens(text)
	var out []string
	for _, i := range f.Code[:f.Clean] {
		at := slices.IndexFunc(tokens, func(token api.Token) bool { return token.At == i.At })
		if at < 0 {
			t.Fatalf("%q: %s is at no token", text, tellInstr(i))
		}
		word := tokens[at].Text
		if tokens[at].Kind == api.TokInt {
			word = fmt.Sprint(tokens[at].N)
		}
		out = append(out, tellInstr(i)+" @"+word)
	}
	return out
}

// holdClean holds what a panic leads to against what it must be.
func holdClean(t *testing.T, text string, f api.FnDef) {
	t.Helper()
	if len(f.Code) != f.Clean+len(f.Vars)+1 {
		t.Errorf("%q: %d instructions, of which %d are ahead of Clean", text, len(f.Code), f.Clean)
		return
	}
	for n, i := range f.Code[f.Clean:] {
		want := api.Instr{Op: api.IEnd, At: f.At, N: len(f.Vars) - 1 - n}
		if n == len(f.Vars) {
			want = api.Instr{Op: api.IResume, At: f.At}
		}
		if !reflect.DeepEqual(i, want) {
			t.Errorf("%q: behind Clean there is %v, not %v", text, i, want)
		}
	}
}
