package borrow

import (
	"slices"

	"holdfast/api"
)

// signed is a signature with regions in the place of its lifetimes, and types in the place of its type parameters.
type signed struct {
	api.Sig
	lives []int
	types []kind
	ins   []kind
	out   kind
}

func (k *kinds) sign(sig api.Sig, lives []int, types []kind) signed {
	s := signed{Sig: sig, lives: lives, types: types, out: k.fill(sig.Out, lives, types)}
	for _, in := range sig.Ins {
		s.ins = append(s.ins, k.fill(in, lives, types))
	}
	return s
}

// demand says of regions what a signature asks for: who calls the function must see to it, and the function may rely on it.
func (k *kinds) demand(r *regions, s signed) {
	for _, out := range s.Outs {
		r.outlive(regionOf(out.Long, s.lives), regionOf(out.Short, s.lives))
	}
	for n, gen := range s.Gens {
		for _, life := range gen.Lives {
			for _, long := range k.all(s.types[n]) {
				r.outlive(long, regionOf(life, s.lives))
			}
		}
	}
	for _, in := range s.ins {
		k.ask(r, in)
	}
	k.ask(r, s.out)
}

// numbered is a signature in which lifetimes that are not told have numbers behind those that are. A closure of a method has such, if Self stands in what it takes or gives: nothing is known of them.
func numbered(sig api.Sig) api.Sig {
	sig.Ins = slices.Clone(sig.Ins)
	for n, in := range sig.Ins {
		sig.Ins[n], sig.Lives = number(in, sig.Lives)
	}
	sig.Out, sig.Lives = number(sig.Out, sig.Lives)
	return sig
}

// number gives the lifetimes of a type that are not told numbers behind so many that there are, and answers how many there are then.
func number(t api.Type, many int) (api.Type, int) {
	t.Lives, t.Args = slices.Clone(t.Lives), slices.Clone(t.Args)
	for n, life := range t.Lives {
		if life == 0 {
			many++
			t.Lives[n] = many
		}
	}
	for n, arg := range t.Args {
		t.Args[n], many = number(arg, many)
	}
	return t, many
}
