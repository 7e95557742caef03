package scope

import (
	"slices"

	"holdfast/api"
)

// bare is a type without its Args.
func bare(t api.Type) api.Type {
	return api.Type{Kind: t.Kind, N: t.N, Lives: slices.Clone(t.Lives)}
}

// copied is a type in memory of its own.
func copied(t api.Type) api.Type {
	return Subst(t, nil)
}

func copiedGens(gens []api.Gen) []api.Gen {
	var out []api.Gen
	for _, gen := range gens {
		out = append(out, api.Gen{Traits: slices.Clone(gen.Traits), Lives: slices.Clone(gen.Lives)})
	}
	return out
}

// copiedNode is a part of a tree in memory of its own. Trees of texts have no types yet.
func copiedNode(n api.Node) api.Node {
	n.Kids = slices.Clone(n.Kids)
	for i, kid := range n.Kids {
		n.Kids[i] = copiedNode(kid)
	}
	return n
}

// livesOf are the lifetimes of a type, from left to right, a thing's own ahead of those of its Args.
func livesOf(t api.Type) []int {
	lives := slices.Clone(t.Lives)
	for _, arg := range t.Args {
		lives = append(lives, livesOf(arg)...)
	}
	return lives
}

// paramsOf are the type parameters that stand in a type, from left to right.
func paramsOf(t api.Type) []int {
	if t.Kind == api.TyParam {
		return []int{t.N}
	}
	var params []int
	for _, arg := range t.Args {
		params = append(params, paramsOf(arg)...)
	}
	return params
}

// Lifeless is a type whose lifetimes are all 0.
func Lifeless(t api.Type) api.Type {
	out := api.Type{Kind: t.Kind, N: t.N}
	if len(t.Lives) > 0 {
		out.Lives = make([]int, len(t.Lives))
	}
	for _, arg := range t.Args {
		out.Args = append(out.Args, Lifeless(arg))
	}
	return out
}

// counted is a type whose lifetimes are counted on from a number. `'static` stays.
func counted(t api.Type, from int) api.Type {
	out := bare(t)
	for i := range out.Lives {
		if out.Lives[i] > 0 {
			out.Lives[i] += from
		}
	}
	for _, arg := range t.Args {
		out.Args = append(out.Args, counted(arg, from))
	}
	return out
}

// alike says whether two types are the same, lifetimes too.
func alike(a, b api.Type) bool {
	return Same(a, b) && slices.Equal(livesOf(a), livesOf(b))
}
