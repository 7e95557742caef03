package traits

import "holdfast/api"

// implLeads asks what the impl by which a type would have a trait asks of its type parameters.
func (a asker) implLeads(q question) ([]question, bool) {
	impl, with := a.implOf(q)
	if impl < 0 {
		return nil, false
	}
	var leads []question
	for i, gen := range a.program.Impls[impl].Gens {
		for _, trait := range gen.Traits {
			leads = append(leads, question{trait, with[i]})
		}
	}
	return leads, true
}

// implOf answers the first impl of a trait whose type becomes the one that is asked for, and the types that make it so; -1 if there is none. Whether these have what the impl asks of them is of no account here.
func (a asker) implOf(q question) (int, []api.Type) {
	for i, impl := range a.program.Impls {
		if impl.Trait != q.trait {
			continue
		}
		if with, ok := become(impl, q.t); ok {
			return i, with
		}
	}
	return -1, nil
}

// become answers the types in the place of an impl's type parameters with which its type is another one. Each of them stands in it just once.
func become(impl api.ImplDef, t api.Type) ([]api.Type, bool) {
	with := make([]api.Type, len(impl.Gens))
	ok := walk(impl.Self, t, func(self, t api.Type) bool {
		if self.Kind != api.TyParam || self.N < 0 || self.N >= len(with) {
			return false
		}
		with[self.N] = t
		return true
	})
	return with, ok
}

// walk goes through two types and says whether they are the same, but where the walk ends, there whatever they are.
func walk(a, b api.Type, ends func(a, b api.Type) bool) bool {
	if ends(a, b) {
		return true
	}
	if a.Kind != b.Kind || a.N != b.N || len(a.Args) != len(b.Args) {
		return false
	}
	for i := range a.Args {
		if !walk(a.Args[i], b.Args[i], ends) {
			return false
		}
	}
	return true
}
