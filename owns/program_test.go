package owns

import (
	"fmt"
	"slices"
	"strconv"
	"strings"
	"testing"

	"holdfast/api"
	"holdfast/check"
	"holdfast/graph"
	"holdfast/lower"
	"holdfast/scope"
	"holdfast/syntax"
)

// made is the program of a text with code, if it has one.
func made(text string) (api.Program, api.Fault) {
	n, fault := syntax.Parse(text)
	if fault.Kind != api.OK {
		return api.Program{}, fault
	}
	p, fault := scope.Items(n)
	if fault.Kind != api.OK {
		return api.Program{}, fault
	}
	p, fault = check.Check(p)
	if fault.Kind != api.OK {
		return api.Program{}, fault
	}
	return lower.Lower(p)
}

// lowered is the program of a text, which has code.
func lowered(t *testing.T, text string) api.Program {
	t.Helper()
	p, fault := made(text)
	if fault.Kind != api.OK {
		t.Fatalf("%q: no code: %v", text, fault)
	}
	return p
}

// fnOf is the number of a function with a name; those of closures have none.
func fnOf(p api.Program, name string) int {
	return slices.IndexFunc(p.Fns, func(f api.FnDef) bool { return f.Name == name })
}

// words are the names of instructions in these tests.
var words = []string{"use", "bin", "un", "ref", "mut", "tuple", "make", "tag", "call", "lib", "method", "clos", "invoke", "spawn", "put", "end", "jump", "if", "ret", "panic", "resume"}

// reader reads instructions that name the locals of a function.
type reader struct {
	t *testing.T
	f api.FnDef
}

// local is which local has a name, or a number.
func (r reader) local(name string) int {
	if n, err := strconv.Atoi(name); err == nil {
		return n
	}
	n := slices.IndexFunc(r.f.Vars, func(v api.Local) bool { return v.Name == name })
	if n < 0 {
		r.t.Fatalf("no local %q", name)
	}
	return n
}

// place reads a local and steps: .N for StepField, :N.M for StepCase, * for StepDeref.
func (r reader) place(text string) api.Place {
	pieces := strings.FieldsFunc(strings.NewReplacer(".", " .", ":", " :", "*", " *").Replace(text), func(c rune) bool { return c == ' ' })
	p := api.Place{Local: r.local(pieces[0])}
	for k := 1; k < len(pieces); k++ {
		n, _ := strconv.Atoi(pieces[k][1:])
		switch pieces[k][0] {
		case '.':
			p.Steps = append(p.Steps, api.Step{Kind: api.StepField, N: n})
		case ':':
			k++
			m, _ := strconv.Atoi(pieces[k][1:])
			p.Steps = append(p.Steps, api.Step{Kind: api.StepCase, N: n, M: m})
		case '*':
			p.Steps = append(p.Steps, api.Step{Kind: api.StepDeref})
		}
	}
	return p
}

// oper reads an operand: #N, true, false, c or m and a place.
func (r reader) oper(text string) api.Oper {
	switch {
	case text[0] == '#':
		n, _ := strconv.Atoi(text[1:])
		return api.Oper{Kind: api.OpInt, N: n}
	case text == "true", text == "false":
		return api.Oper{Kind: api.OpBool, N: len("false") - len(text)}
	case text[0] == 'c':
		return api.Oper{Kind: api.OpCopy, Place: r.place(text[1:])}
	}
	return api.Oper{Kind: api.OpMove, Place: r.place(text[1:])}
}

// instr reads an instruction: where it leads to (or _), its name with N and /M, then <names> of locals whose types are its Types, @ with a place that it takes from, its operands.
func (r reader) instr(text string) api.Instr {
	fields := strings.Fields(text)
	name, numbers, _ := strings.Cut(fields[1], "#")
	first, second, _ := strings.Cut(numbers, "/")
	i := api.Instr{Op: slices.Index(words, name)}
	i.N, _ = strconv.Atoi(first)
	i.M, _ = strconv.Atoi(second)
	if i.Op == api.IEnd {
		i.N = r.local(first)
	}
	if fields[0] != "_" {
		i.To = r.place(fields[0])
	}
	for _, field := range fields[2:] {
		switch field[0] {
		case '<':
			for name := range strings.SplitSeq(strings.Trim(field, "<>"), ",") {
				i.Types = append(i.Types, r.f.Vars[r.local(name)].Type)
			}
		case '@':
			i.From = r.place(field[1:])
		default:
			i.Args = append(i.Args, r.oper(field))
		}
	}
	return i
}

// recoded is a program in which a function has other code ahead of Clean, each instruction at 100 and its number. The code is well-formed.
func recoded(t *testing.T, p api.Program, n int, code []api.Instr) api.Program {
	t.Helper()
	p.Fns = slices.Clone(p.Fns)
	f := p.Fns[n]
	f.Code, f.Clean = slices.Clone(code), len(code)
	for local := range slices.Backward(f.Vars) {
		f.Code = append(f.Code, api.Instr{Op: api.IEnd, N: local})
	}
	f.Code = append(f.Code, api.Instr{Op: api.IResume})
	for k := range f.Code {
		f.Code[k].At = 100 + k
	}
	p.Fns[n] = f
	if wrong := graph.Check(p, n); wrong != -1 {
		t.Fatalf("instruction %d is not well-formed: %v", wrong, f.Code[wrong])
	}
	return p
}

// coded is a program in which function f has other code.
func coded(t *testing.T, p api.Program, instrs ...string) api.Program {
	t.Helper()
	n := fnOf(p, "f")
	var code []api.Instr
	for _, text := range instrs {
		code = append(code, reader{t, p.Fns[n]}.instr(text))
	}
	return recoded(t, p, n, code)
}

// tellPlace writes a place as a reader reads it.
func tellPlace(f api.FnDef, p api.Place) string {
	text := f.Vars[p.Local].Name
	if text == "" {
		text = fmt.Sprint(p.Local)
	}
	for _, s := range p.Steps {
		switch s.Kind {
		case api.StepField:
			text += fmt.Sprint(".", s.N)
		case api.StepCase:
			text += fmt.Sprint(":", s.N, ".", s.M)
		case api.StepDeref:
			text += "*"
		}
	}
	return text
}

// tellPaths writes the paths of a flow behind the locals.
func tellPaths(f api.FnDef, flow api.Flow) string {
	var out []string
	for _, p := range flow.Paths[len(f.Vars):] {
		out = append(out, tellPlace(f, p))
	}
	return strings.Join(out, " ")
}

// tellRow writes what holds ahead of an instruction: of each path + if it is there, - if it is not, ? if it may be either, . if nothing leads there; then the locals that are live, and those that may be dropped.
func tellRow(flow api.Flow, n int) string {
	text := ""
	for k := range flow.Paths {
		text += string(".+-?"[count(flow.Init[n][k])+2*count(flow.Hole[n][k])])
	}
	return text + " " + tellLocals(flow.Live[n]) + " " + tellLocals(flow.Drop[n])
}

func count(yes bool) int {
	if yes {
		return 1
	}
	return 0
}

func tellLocals(row []bool) string {
	text := ""
	for _, yes := range row {
		text += string("ny"[count(yes)])
	}
	return text
}
