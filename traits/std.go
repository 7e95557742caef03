package traits

import (
	"holdfast/api"
	"holdfast/scope"
)

// copyLeads are the questions that Copy leads to.
func (a asker) copyLeads(t api.Type) ([]question, bool) {
	switch t.Kind {
	case api.TyInt, api.TyBool, api.TyNever, api.TyRef:
		return nil, true
	case api.TyTuple:
		return each(api.TrCopy, t.Args), true
	case api.TyData:
		return each(api.TrCopy, t.Args), a.hasData(t.N) && a.program.Datas[t.N].Copy
	case api.TyLib:
		return nil, t.N == api.LySlice
	}
	return nil, false
}

func (a asker) hasData(n int) bool {
	return n >= 0 && n < len(a.program.Datas)
}

// threadLeads are the questions that Send and Sync lead to.
func (a asker) threadLeads(q question) ([]question, bool) {
	switch q.t.Kind {
	case api.TyInt, api.TyBool, api.TyNever:
		return nil, true
	case api.TyTuple, api.TyMut:
		return each(q.trait, q.t.Args), true
	case api.TyRef:
		return each(api.TrSync, q.t.Args), true
	case api.TyData:
		return each(q.trait, a.partTypes(q.t)), a.hasData(q.t.N)
	case api.TyLib:
		return libLeads(q)
	}
	return nil, false
}

// partTypes are the types of all parts of a data type, with its Args in the place of its type parameters.
func (a asker) partTypes(t api.Type) []api.Type {
	var types []api.Type
	if a.hasData(t.N) {
		for _, c := range a.program.Datas[t.N].Cases {
			for _, part := range c.Parts {
				types = append(types, scope.Subst(part.Type, t.Args))
			}
		}
	}
	return types
}

// libLeads asks of the content of a type of std what it must have.
func libLeads(q question) ([]question, bool) {
	traits, ok := contentTraits(q.t.N, q.trait)
	var leads []question
	for _, trait := range traits {
		leads = append(leads, each(trait, q.t.Args)...)
	}
	return leads, ok
}

// contentTraits says what the content of a type of std must have so that it is Send or Sync, or that it never is.
func contentTraits(lib, trait int) ([]int, bool) {
	switch lib {
	case api.LyBox, api.LyVec, api.LyHandle, api.LySliceMut:
		return []int{trait}, true
	case api.LyArc:
		return []int{api.TrSend, api.TrSync}, true
	case api.LyMutex, api.LySender:
		return []int{api.TrSend}, true
	case api.LyCell, api.LyRefCell, api.LyReceiver:
		return []int{api.TrSend}, trait == api.TrSend
	case api.LySlice:
		return []int{api.TrSync}, true
	case api.LyLock:
		return []int{api.TrSync}, trait == api.TrSync
	}
	return nil, false
}
