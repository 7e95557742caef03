package check

import (
	"slices"

	"holdfast/api"
	"holdfast/shapes"
)

// filling is a signature whose type parameters are being found out. At: where its node stands.
type filling struct {
	*body
	at    int
	gens  []api.Gen
	ins   []shapes.Type
	out   shapes.Type
	known []shapes.Type // of each type parameter the type that it has, or none
}

// newFilling begins to fill a signature, by the types that are written, or else by what is wanted.
func (b *body) newFilling(at int, sig api.Sig, written []api.Node, wanted shapes.Type) *filling {
	f := &filling{body: b, at: at, gens: sig.Gens, ins: b.OfAll(sig.Ins), out: b.Of(sig.Out)}
	f.known = slices.Repeat([]shapes.Type{shapes.None}, len(sig.Gens))
	switch {
	case len(written) > 0:
		if len(written) != len(f.known) {
			refuse(api.ErrCount, at)
		}
		for i, n := range written {
			f.known[i] = b.written(n, false)
		}
	case wanted != shapes.None && !f.becomes(f.out, wanted):
		refuse(api.ErrType, at)
	}
	return f
}

// value looks at a value for a parameter, of its type if that is known.
func (f *filling) value(n api.Node, param int) api.Node {
	in := f.ins[param]
	if f.isKnown(in) {
		typed, _ := f.body.value(n, f.Put(in, f.known))
		return typed
	}
	typed, t := f.body.value(n, shapes.None)
	if !f.becomes(in, t) {
		refuse(api.ErrType, typed.At)
	}
	return typed
}

// isKnown says whether all type parameters of a type are known.
func (f *filling) isKnown(t shapes.Type) bool {
	s := f.Shape(t)
	if s.Kind == api.TyParam {
		return f.known[s.N] != shapes.None
	}
	return !slices.ContainsFunc(s.Args, func(arg shapes.Type) bool { return !f.isKnown(arg) })
}

// becomes matches a type with another one: type parameters that are not known become what stands there.
func (f *filling) becomes(t, other shapes.Type) bool {
	s, o := f.Shape(t), f.Shape(other)
	if s.Kind == api.TyParam {
		if f.known[s.N] == shapes.None {
			f.known[s.N] = other
		}
		return f.known[s.N] == other
	}
	if s.Kind != o.Kind || s.N != o.N || len(s.Args) != len(o.Args) {
		return false
	}
	for i := range s.Args {
		if !f.becomes(s.Args[i], o.Args[i]) {
			return false
		}
	}
	return true
}

// done answers the node with what its type parameters are, and the type of the result, once all values are there.
func (f *filling) done(n api.Node) (api.Node, shapes.Type) {
	if slices.Contains(f.known, shapes.None) {
		refuse(api.ErrGuess, f.at)
	}
	for i, gen := range f.gens {
		for _, trait := range gen.Traits {
			if !f.has(f.fn.Sig.Gens, trait, f.known[i]) {
				refuse(api.ErrBound, f.at)
			}
		}
	}
	t := f.Put(f.out, f.known)
	if f.TooBig(t) { // ahead of telling what it is made of, which might have no end
		refuse(api.ErrMany, f.at)
	}
	n.Args = f.TellAll(f.known)
	return n, t
}
