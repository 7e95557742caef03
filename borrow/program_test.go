package borrow

import (
	"fmt"
	"slices"
	"strings"
	"testing"

	"holdfast/api"
	"holdfast/check"
	"holdfast/lower"
	"holdfast/owns"
	"holdfast/scope"
	"holdfast/syntax"
)

// made is the program of a text with code, if it has one in which nothing is done with places that may not be.
func made(text string) (api.Program, api.Fault) {
	n, fault := syntax.Parse(text)
	if fault.Kind != api.OK {
		return api.Program{}, fault
	}
	p, fault := scope.Items(n)
	if fault.Kind != api.OK {
		return api.Program{}, fault
	}
	p, fault = check.Check(p)
	if fault.Kind != api.OK {
		return api.Program{}, fault
	}
	p, fault = lower.Lower(p)
	if fault.Kind == api.OK {
		fault = owns.Check(p)
	}
	return p, fault
}

// lowered is the program of a text, which has code.
func lowered(t *testing.T, text string) api.Program {
	t.Helper()
	p, fault := made(text)
	if fault.Kind != api.OK {
		t.Fatalf("%q: no code: %v: %.30q", text, fault, text[min(fault.At, len(text)):])
	}
	return p
}

// fnOf is the number of a function with a name; those of closures have none.
func fnOf(p api.Program, name string) int {
	return slices.IndexFunc(p.Fns, func(f api.FnDef) bool { return f.Name == name })
}

// judged looks what Check says of a text in which a `@` stands at the place of the fault; without one there is none.
func judged(t *testing.T, kind api.Errno, marked string) {
	t.Helper()
	want := api.Fault{}
	if at := strings.Index(marked, "@"); at >= 0 {
		want = api.Fault{Kind: kind, At: at}
	}
	text := strings.Replace(marked, "@", "", 1)
	p := lowered(t, text)
	if got := Check(p); got != want || (kind == api.OK) != (want.Kind == api.OK) {
		t.Errorf("%q: %v, not %v: %.30q", marked, got, want, text[min(got.At, len(text)):])
	}
	holdProgram(t, text, p)
}

// words are the names of instructions in these tests.
var words = []string{"use", "bin", "un", "ref", "mut", "tuple", "make", "tag", "call", "lib", "method", "clos", "invoke", "spawn", "put", "end", "jump", "if", "ret", "panic", "resume"}

// tellPlace writes a place: .N for StepField, :N.M for StepCase, * for StepDeref.
func tellPlace(f api.FnDef, p api.Place) string {
	text := f.Vars[p.Local].Name
	if text == "" {
		text = fmt.Sprint(p.Local)
	}
	for _, s := range p.Steps {
		switch s.Kind {
		case api.StepField:
			text += fmt.Sprint(".", s.N)
		case api.StepCase:
			text += fmt.Sprint(":", s.N, ".", s.M)
		case api.StepDeref:
			text += "*"
		}
	}
	return text
}

// tellInstr writes an instruction: where it leads to, its name, what it takes.
func tellInstr(f api.FnDef, i api.Instr) string {
	var out []string
	if i.Op <= api.IPut {
		out = append(out, tellPlace(f, i.To))
	}
	switch i.Op {
	case api.IEnd:
		out = append(out, "end "+tellPlace(f, api.Place{Local: i.N}))
	case api.IJump, api.IIf:
		out = append(out, fmt.Sprint(words[i.Op], "#", i.N))
	default:
		out = append(out, words[i.Op])
	}
	if i.Op == api.IRef || i.Op == api.IMut || i.Op == api.ITag {
		out = append(out, tellPlace(f, i.From))
	}
	for _, arg := range i.Args {
		switch arg.Kind {
		case api.OpCopy:
			out = append(out, "c"+tellPlace(f, arg.Place))
		case api.OpMove:
			out = append(out, "m"+tellPlace(f, arg.Place))
		default:
			out = append(out, fmt.Sprint(arg.N))
		}
	}
	return strings.Join(out, " ")
}

// tellSpan writes rising numbers: those that follow one another as a-b.
func tellSpan(numbers []int) string {
	var out []string
	for k := 0; k < len(numbers); {
		last := k
		for last+1 < len(numbers) && numbers[last+1] == numbers[last]+1 {
			last++
		}
		piece := fmt.Sprint(numbers[k])
		if last > k {
			piece += fmt.Sprint("-", numbers[last])
		}
		out = append(out, piece)
		k = last + 1
	}
	return strings.Join(out, ",")
}

// tellSpans writes the spans of the locals that have some.
func tellSpans(f api.FnDef, lend api.Lend) string {
	var out []string
	for n, spans := range lend.Spans {
		if len(spans) == 0 {
			continue
		}
		text := tellPlace(f, api.Place{Local: n}) + ":"
		for _, span := range spans {
			text += " [" + tellSpan(span) + "]"
		}
		out = append(out, text)
	}
	return strings.Join(out, " ")
}

// tellLoans writes each loan with where it is out.
func tellLoans(f api.FnDef, lend api.Lend) string {
	var out []string
	for k, loan := range lend.Loans {
		text := fmt.Sprint(loan.At, " &")
		if loan.Mut {
			text += "mut "
		}
		var ahead []int
		for n, row := range lend.Out {
			if slices.Contains(row, k) {
				ahead = append(ahead, n)
			}
		}
		out = append(out, text+tellPlace(f, loan.Place)+" ["+tellSpan(ahead)+"]")
	}
	return strings.Join(out, "; ")
}
