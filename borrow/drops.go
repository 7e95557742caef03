package borrow

import (
	"slices"

	"holdfast/api"
)

// dropRegions are the regions of a type that have to last where a value of it is dropped. It goes through all types of what is dropped with it, each of them once.
func (k *kinds) dropRegions(of kind) []int {
	found := []kind{of}
	var out []int
	for n := 0; n < len(found); n++ {
		if k.dropsAsOne(found[n]) {
			out = append(out, found[n].regions...)
			continue
		}
		for _, part := range k.dropsWith(found[n]) {
			if !slices.ContainsFunc(found, part.same) {
				found = append(found, part)
			}
		}
		if len(found) > api.MaxAsk {
			return of.regions
		}
	}
	return out
}

// dropsAsOne says whether dropping a value may look at all that it has, or too much would have to be gone through to tell.
func (k *kinds) dropsAsOne(of kind) bool {
	s := k.Shape(of.shape)
	switch {
	case k.TooBig(of.shape), s.Kind == api.TyFn, k.HasDrop(s):
		return true
	case s.Kind == api.TyLib:
		return s.N == api.LyRef || s.N == api.LyRefMut || s.N == api.LyLock
	}
	return false
}

// dropsWith are the types of what is dropped with a value.
func (k *kinds) dropsWith(of kind) []kind {
	s := k.Shape(of.shape)
	switch {
	case s.Kind == api.TyTuple, s.Kind == api.TyLib && s.N != api.LySlice && s.N != api.LySliceMut:
		return k.args(of)
	case s.Kind != api.TyData:
		return nil
	}
	var out []kind
	for _, variant := range k.Datas[s.N].Cases {
		for _, part := range variant.Parts {
			out = append(out, k.part(of, part))
		}
	}
	return out
}
