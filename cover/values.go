package cover

import (
	"iter"
	"strconv"
	"strings"

	"holdfast/api"
)

// shut is the form of a type into which no pattern looks.
const shut = api.TyNever

// values says which types have values.
type values struct {
	program api.Program
	known   map[string]int // by the texts of enums and what fills them: 1, if there are values
}

func valuesOf(p api.Program) values {
	return values{p, map[string]int{}}
}

// filling is all that counts of a type that stands in the place of a type parameter. Types that are unlike, but are alike in this, are looked at once: there may be very many of them.
type filling struct {
	parts int
	some  bool
}

// parts counts the parts of a type; from MaxParts on it is of no account how many more there are.
func parts(t api.Type, with []filling) int {
	if filled(t, with) {
		return with[t.N].parts
	}
	count := 1
	for _, arg := range t.Args {
		if count > api.MaxParts {
			break
		}
		count += parts(arg, with)
	}
	return count
}

func filled(t api.Type, with []filling) bool {
	return t.Kind == api.TyParam && t.N >= 0 && t.N < len(with)
}

// form is the kind of a type that tells what values it has.
func (v values) form(t api.Type, with []filling) int {
	switch {
	case parts(t, with) > api.MaxParts:
		return shut
	case t.Kind == api.TyInt, t.Kind == api.TyBool, t.Kind == api.TyTuple, filled(t, with):
		return t.Kind
	case t.Kind == api.TyData && t.N >= 0 && t.N < len(v.program.Datas) && v.program.Datas[t.N].Enum:
		return t.Kind
	}
	return shut
}

// some says whether a type has values.
func (v values) some(t api.Type, with []filling) bool {
	switch v.form(t, with) {
	case api.TyParam:
		return with[t.N].some
	case api.TyTuple:
		for _, arg := range t.Args {
			if !v.some(arg, with) {
				return false
			}
		}
	case api.TyData:
		return v.someCase(t.N, v.fillings(t.Args, with))
	}
	return true
}

func (v values) fillings(types []api.Type, with []filling) []filling {
	var out []filling
	for _, t := range types {
		out = append(out, filling{parts(t, with), v.some(t, with)})
	}
	return out
}

// someCase says whether an enum has values.
func (v values) someCase(data int, with []filling) bool {
	text := enumText(data, with)
	if _, ok := v.known[text]; !ok {
		v.known[text] = 0 // a value is finite: one within itself is none
		for range v.cases(data, with) {
			v.known[text] = 1
			break
		}
	}
	return v.known[text] > 0
}

func enumText(data int, with []filling) string {
	var b strings.Builder
	b.WriteString(strconv.Itoa(data))
	for _, f := range with {
		b.WriteString(" " + strconv.Itoa(f.parts) + " " + strconv.FormatBool(f.some))
	}
	return b.String()
}

// cases goes through the variants of an enum that have values.
func (v values) cases(data int, with []filling) iter.Seq[int] {
	return func(yield func(int) bool) {
		for m, c := range v.program.Datas[data].Cases {
			if v.someParts(c, with) && !yield(m) {
				return
			}
		}
	}
}

func (v values) someParts(c api.Case, with []filling) bool {
	for _, part := range c.Parts {
		if !v.some(part.Type, with) {
			return false
		}
	}
	return true
}
