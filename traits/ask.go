package traits

import (
	"slices"
	"strconv"
	"strings"

	"holdfast/api"
)

// question is whether a type has a trait.
type question struct {
	trait int
	t     api.Type
}

// asker answers questions about the types of a program, where gens says what the type parameters have.
type asker struct {
	program api.Program
	gens    []api.Gen
}

// yes goes through all questions that a question leads to, each of them once. They are asked by their texts, so that one that leads back to itself comes to an end.
func (a asker) yes(q question) bool {
	asked := map[string]struct{}{}
	open := []question{q}
	for len(open) > 0 {
		next := open[len(open)-1]
		open = open[:len(open)-1]
		if TooBig(next.t) { // ahead of its text, which might have no end
			return false
		}
		text := next.text()
		if _, ok := asked[text]; ok {
			continue
		}
		asked[text] = struct{}{}
		leads, ok := a.leads(next)
		if !ok || len(asked) > api.MaxAsk {
			return false
		}
		open = append(open, leads...)
	}
	return true
}

// text is the same for questions that are the same: lifetimes are left out.
func (q question) text() string {
	var b strings.Builder
	b.WriteString(strconv.Itoa(q.trait))
	writeType(&b, q.t)
	return b.String()
}

func writeType(b *strings.Builder, t api.Type) {
	b.WriteString("(" + strconv.Itoa(t.Kind) + " " + strconv.Itoa(t.N))
	for _, arg := range t.Args {
		writeType(b, arg)
	}
	b.WriteString(")")
}

// countParts counts the parts of a type, but stops once there are more than enough.
func countParts(t api.Type, enough int) int {
	count := 1
	for _, arg := range t.Args {
		if count > enough {
			break
		}
		count += countParts(arg, enough-count)
	}
	return count
}

// leads answers the questions that a question leads to at once, or that its answer is no.
func (a asker) leads(q question) ([]question, bool) {
	if q.t.Kind == api.TyParam {
		if a.given(q) {
			return nil, true
		}
		if !a.hasParam(q.t.N) {
			return nil, false
		}
	}
	switch q.trait {
	case api.TrCopy:
		return a.copyLeads(q.t)
	case api.TrSend, api.TrSync:
		return a.threadLeads(q)
	}
	return a.implLeads(q)
}

func (a asker) hasParam(n int) bool {
	return n >= 0 && n < len(a.gens)
}

// given says whether gens answers a question with yes.
func (a asker) given(q question) bool {
	return q.t.Kind == api.TyParam && a.hasParam(q.t.N) && slices.Contains(a.gens[q.t.N].Traits, q.trait)
}

// each asks the same of several types.
func each(trait int, types []api.Type) []question {
	var out []question
	for _, t := range types {
		out = append(out, question{trait, t})
	}
	return out
}
