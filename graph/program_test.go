package graph

import (
	"fmt"
	"slices"
	"strconv"
	"strings"
	"testing"

	"holdfast/api"
	"holdfast/check"
	"holdfast/lower"
	"holdfast/scope"
	"holdfast/syntax"
)

// lowered is the program of a text with code.
func lowered(t *testing.T, text string) api.Program {
	t.Helper()
	n, fault := syntax.Parse(text)
	if fault.Kind != api.OK {
		t.Fatalf("%q: no text: %v", text, fault)
	}
	p, fault := scope.Items(n)
	if fault.Kind != api.OK {
		t.Fatalf("%q: no program: %v", text, fault)
	}
	p, fault = check.Check(p)
	if fault.Kind != api.OK {
		t.Fatalf("%q: no types: %v", text, fault)
	}
	p, fault = lower.Lower(p)
	if fault.Kind != api.OK {
		t.Fatalf("%q: no code: %v", text, fault)
	}
	return p
}

// words are the names of instructions in these tests.
var words = []string{"use", "bin", "un", "ref", "mut", "tuple", "make", "tag", "call", "lib", "method", "clos", "invoke", "spawn", "put", "end", "jump", "if", "ret", "panic", "resume"}

// writer reads instructions that name the locals of a function.
type writer struct {
	t *testing.T
	f api.FnDef
}

// local is which local has a name; `0` is the first one, other numbers are what they say.
func (w writer) local(name string) int {
	if n, err := strconv.Atoi(name); err == nil {
		return n
	}
	n := slices.IndexFunc(w.f.Vars, func(v api.Local) bool { return v.Name == name })
	if n < 0 {
		w.t.Fatalf("no local %q", name)
	}
	return n
}

// place reads a local and steps: .N for StepField, :N.M for StepCase, * for StepDeref, ? for one that is none.
func (w writer) place(text string) api.Place {
	end := strings.IndexAny(text, ".:*?")
	if end < 0 {
		end = len(text)
	}
	p := api.Place{Local: w.local(text[:end])}
	number := func() int {
		size := 0
		for size < len(text)-end && strings.ContainsRune("-0123456789", rune(text[end+size])) {
			size++
		}
		n, _ := strconv.Atoi(text[end : end+size])
		end += size
		return n
	}
	for end < len(text) {
		sign := text[end]
		end++
		switch sign {
		case '.':
			p.Steps = append(p.Steps, api.Step{Kind: api.StepField, N: number()})
		case ':':
			s := api.Step{Kind: api.StepCase, N: number()}
			end++
			s.M = number()
			p.Steps = append(p.Steps, s)
		case '*':
			p.Steps = append(p.Steps, api.Step{Kind: api.StepDeref})
		default:
			p.Steps = append(p.Steps, api.Step{Kind: 7})
		}
	}
	return p
}

// oper reads an operand: #N, true, false, c or m with a place, or a kind that is none.
func (w writer) oper(text string) api.Oper {
	switch {
	case text[0] == '#':
		n, _ := strconv.Atoi(text[1:])
		return api.Oper{Kind: api.OpInt, N: n}
	case text == "true", text == "false":
		return api.Oper{Kind: api.OpBool, N: len("false") - len(text)}
	case text == "maybe":
		return api.Oper{Kind: api.OpBool, N: 2}
	case text[0] == 'c':
		return api.Oper{Kind: api.OpCopy, Place: w.place(text[1:])}
	case text[0] == 'm':
		return api.Oper{Kind: api.OpMove, Place: w.place(text[1:])}
	}
	return api.Oper{Kind: 9, Place: w.place(text[1:])}
}

// instr reads an instruction: where it leads to (or _), its name with N and /M, then <names> of locals whose types are its Types, @ with a place that it takes from, its operands.
func (w writer) instr(text string) api.Instr {
	fields := strings.Fields(text)
	name, numbers, _ := strings.Cut(fields[1], "#")
	first, second, _ := strings.Cut(numbers, "/")
	i := api.Instr{Op: slices.Index(words, name)}
	i.N, _ = strconv.Atoi(first)
	i.M, _ = strconv.Atoi(second)
	if fields[0] != "_" {
		i.To = w.place(fields[0])
	}
	for _, field := range fields[2:] {
		switch field[0] {
		case '<':
			for name := range strings.SplitSeq(strings.Trim(field, "<>"), ",") {
				i.Types = append(i.Types, w.f.Vars[w.local(name)].Type)
			}
		case '@':
			i.From = w.place(field[1:])
		default:
			i.Args = append(i.Args, w.oper(field))
		}
	}
	return i
}

// cleaned is a function with other code ahead of Clean.
func cleaned(f api.FnDef, code ...api.Instr) api.FnDef {
	f.Code, f.Clean = slices.Clone(code), len(code)
	for n := range slices.Backward(f.Vars) {
		f.Code = append(f.Code, api.Instr{Op: api.IEnd, N: n})
	}
	f.Code = append(f.Code, api.Instr{Op: api.IResume})
	return f
}

// fnOf is the number of a function with a name; closures have none: the first one.
func fnOf(p api.Program, name string) int {
	return slices.IndexFunc(p.Fns, func(f api.FnDef) bool { return f.Name == name })
}

// judged is whether an instruction is well-formed in function f of a program, between an IPanic and an IRet.
func judged(p api.Program, i api.Instr) bool {
	n := fnOf(p, "f")
	p.Fns = slices.Clone(p.Fns)
	p.Fns[n] = cleaned(p.Fns[n], api.Instr{Op: api.IPanic}, i, api.Instr{Op: api.IRet})
	switch got := Check(p, n); got {
	case -1:
		return true
	case 1:
		return false
	default:
		panic(fmt.Sprint("instruction ", got, " is not well-formed"))
	}
}
