package check

import (
	"slices"

	"holdfast/api"
)

// filling is a signature whose type parameters are being found out. At: where its node stands.
type filling struct {
	*body
	at    int
	gens  []api.Gen
	ins   []typ
	out   typ
	known []typ // of each type parameter the type that it has, or none
}

// newFilling begins to fill a signature, by the types that are written, or else by what is wanted.
func (b *body) newFilling(at int, sig api.Sig, written []api.Node, wanted typ) *filling {
	f := &filling{body: b, at: at, gens: sig.Gens, ins: b.ofAll(sig.Ins), out: b.of(sig.Out)}
	f.known = slices.Repeat([]typ{none}, len(sig.Gens))
	switch {
	case len(written) > 0:
		if len(written) != len(f.known) {
			refuse(api.ErrCount, at)
		}
		for i, n := range written {
			f.known[i] = b.written(n, false)
		}
	case wanted != none && !f.becomes(f.out, wanted):
		refuse(api.ErrType, at)
	}
	return f
}

// value looks at a value for a parameter, of its type if that is known.
func (f *filling) value(n api.Node, param int) api.Node {
	in := f.ins[param]
	if f.isKnown(in) {
		typed, _ := f.body.value(n, f.put(in, f.known))
		return typed
	}
	typed, t := f.body.value(n, none)
	if !f.becomes(in, t) {
		refuse(api.ErrType, typed.At)
	}
	return typed
}

// isKnown says whether all type parameters of a type are known.
func (f *filling) isKnown(t typ) bool {
	s := f.shapes[t]
	if s.kind == api.TyParam {
		return f.known[s.n] != none
	}
	return !slices.ContainsFunc(s.args, func(arg typ) bool { return !f.isKnown(arg) })
}

// becomes matches a type with another one: type parameters that are not known become what stands there.
func (f *filling) becomes(t, other typ) bool {
	s, o := f.shapes[t], f.shapes[other]
	if s.kind == api.TyParam {
		if f.known[s.n] == none {
			f.known[s.n] = other
		}
		return f.known[s.n] == other
	}
	if s.kind != o.kind || s.n != o.n || len(s.args) != len(o.args) {
		return false
	}
	for i := range s.args {
		if !f.becomes(s.args[i], o.args[i]) {
			return false
		}
	}
	return true
}

// done answers the node with what its type parameters are, and the type of the result, once all values are there.
func (f *filling) done(n api.Node) (api.Node, typ) {
	if slices.Contains(f.known, none) {
		refuse(api.ErrGuess, f.at)
	}
	for i, gen := range f.gens {
		for _, trait := range gen.Traits {
			if !f.has(f.fn.Sig.Gens, trait, f.known[i]) {
				refuse(api.ErrBound, f.at)
			}
		}
	}
	t := f.put(f.out, f.known)
	if f.tooBig(t) { // ahead of telling what it is made of, which might have no end
		refuse(api.ErrMany, f.at)
	}
	n.Args = f.tellAll(f.known)
	return n, t
}
