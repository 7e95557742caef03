package shapes

import "holdfast/api"

// Place is the type of a place in a function whose locals have these types, or none.
func (t *Types) Place(locals []Type, p api.Place) Type {
	if !isOne(p.Local, len(locals)) {
		return None
	}
	at := locals[p.Local]
	for _, step := range p.Steps {
		if at = t.Step(at, step); at == None {
			break
		}
	}
	return at
}

// Step is the type of what a step leads to, or none.
func (t *Types) Step(from Type, step api.Step) Type {
	s := t.Shape(from)
	switch {
	case step.Kind == api.StepDeref && leads(s):
		return s.Args[0]
	case step.Kind == api.StepField && s.Kind == api.TyTuple && isOne(step.N, len(s.Args)):
		return s.Args[step.N]
	case step.Kind == api.StepField && s.Kind == api.TyData && !t.IsEnum(from):
		return t.part(s, 0, step.N)
	case step.Kind == api.StepCase && t.IsEnum(from):
		return t.part(s, step.N, step.M)
	}
	return None
}

// leads says whether a StepDeref leads somewhere.
func leads(s Shape) bool {
	return s.Kind == api.TyRef || s.Kind == api.TyMut || s.Kind == api.TyLib && s.N == api.LyBox
}

// IsEnum says whether a type is an enum.
func (t *Types) IsEnum(known Type) bool {
	s, ok := t.Is(api.TyData, known)
	return ok && t.Datas[s.N].Enum
}

// part is the type of a part of a data type, or none.
func (t *Types) part(s Shape, variant, part int) Type {
	cases := t.Datas[s.N].Cases
	if !isOne(variant, len(cases)) || !isOne(part, len(cases[variant].Parts)) {
		return None
	}
	return t.Put(t.Of(cases[variant].Parts[part].Type), s.Args)
}

// Parts are the types of all parts of a data type, those of its first variant first.
func (t *Types) Parts(s Shape) []Type {
	var out []Type
	for _, variant := range t.Datas[s.N].Cases {
		for _, part := range variant.Parts {
			out = append(out, t.Put(t.Of(part.Type), s.Args))
		}
	}
	return out
}

// isOne says whether a number is one of so many.
func isOne(n, many int) bool {
	return n >= 0 && n < many
}
