package traits

import (
	"slices"
	"strings"

	"holdfast/api"
	"holdfast/scope"
)

// oracle answers questions as the chapter tells of them, slowly: what has been asked is a list that is held against each new question by Same, and impls are tried with all types that might stand in them.
type oracle struct {
	program api.Program
	gens    []api.Gen
	seen    []question
}

// ofStd tells of each type of std what its content must have for Send and for Sync: s for Send, y for Sync, - for never.
var ofStd = []string{
	api.LyBox: "s y", api.LyVec: "s y", api.LyHandle: "s y", api.LySliceMut: "s y", api.LyArc: "sy sy", api.LyMutex: "s s", api.LySender: "s s",
	api.LyCell: "s -", api.LyRefCell: "s -", api.LyReceiver: "s -", api.LySlice: "y y", api.LyLock: "- y", api.LyRc: "- -", api.LyRef: "- -", api.LyRefMut: "- -",
}

// allParts are the parts of a type.
func allParts(t api.Type) []api.Type {
	parts := []api.Type{t}
	for _, arg := range t.Args {
		parts = append(parts, allParts(arg)...)
	}
	return parts
}

func (o *oracle) has(trait int, t api.Type) bool {
	if slices.ContainsFunc(o.seen, func(q question) bool { return q.trait == trait && scope.Same(q.t, t) }) {
		return true
	}
	o.seen = append(o.seen, question{trait, t})
	if len(o.seen) > 60 || len(allParts(t)) > 60 {
		return false
	}
	if t.Kind == api.TyParam {
		if t.N >= len(o.gens) {
			return false
		}
		if slices.Contains(o.gens[t.N].Traits, trait) {
			return true
		}
	}
	switch trait {
	case api.TrCopy:
		return o.copied(t)
	case api.TrSend, api.TrSync:
		return o.shared(trait, t)
	}
	impl, with := o.impl(trait, t)
	if impl < 0 {
		return false
	}
	for i, gen := range o.program.Impls[impl].Gens {
		for _, more := range gen.Traits {
			if !o.has(more, with[i]) {
				return false
			}
		}
	}
	return true
}

func (o *oracle) hasAll(trait int, types []api.Type) bool {
	for _, t := range types {
		if !o.has(trait, t) {
			return false
		}
	}
	return true
}

func (o *oracle) copied(t api.Type) bool {
	simple := []int{api.TyInt, api.TyBool, api.TyNever, api.TyRef}
	composed := t.Kind == api.TyTuple || t.Kind == api.TyData && o.program.Datas[t.N].Copy
	return slices.Contains(simple, t.Kind) || t.Kind == api.TyLib && t.N == api.LySlice || composed && o.hasAll(api.TrCopy, t.Args)
}

func (o *oracle) shared(trait int, t api.Type) bool {
	switch t.Kind {
	case api.TyFn, api.TyParam:
		return false
	case api.TyRef:
		return o.hasAll(api.TrSync, t.Args)
	case api.TyLib:
		content := strings.Fields(ofStd[t.N])[trait-api.TrSend]
		return content != "-" && (!strings.Contains(content, "s") || o.hasAll(api.TrSend, t.Args)) && (!strings.Contains(content, "y") || o.hasAll(api.TrSync, t.Args))
	case api.TyData:
		for _, c := range o.program.Datas[t.N].Cases {
			for _, part := range c.Parts {
				if !o.has(trait, scope.Subst(part.Type, t.Args)) {
					return false
				}
			}
		}
		return true
	}
	return o.hasAll(trait, t.Args)
}

// impl is the first impl of a trait whose type becomes a type, and the types with which it does.
func (o *oracle) impl(trait int, t api.Type) (int, []api.Type) {
	for i, impl := range o.program.Impls {
		if impl.Trait == trait {
			if with := becoming(impl.Self, t, len(impl.Gens), nil); with != nil {
				return i, with
			}
		}
	}
	return -1, nil
}

// becoming tries all parts of a type in the place of all type parameters of another one; nil if it never becomes it.
func becoming(self, t api.Type, gens int, with []api.Type) []api.Type {
	if len(with) == gens {
		if scope.Same(scope.Subst(self, with), t) {
			return append([]api.Type{}, with...)
		}
		return nil
	}
	for _, part := range allParts(t) {
		if all := becoming(self, t, gens, append(slices.Clone(with), part)); all != nil {
			return all
		}
	}
	return nil
}
