package check

import (
	"slices"

	"holdfast/api"
	"holdfast/shapes"
)

// closure looks at an EClosure or ESpawn, whose body is a function of its own.
func (b *body) closure(n api.Node) (api.Node, shapes.Type) {
	around := b.fn
	kind := n.N
	if n.Kind == api.ESpawn {
		kind = api.FnSpawn
	}
	fn := api.FnDef{Mod: around.Mod, At: n.At, Impl: around.Impl, Kind: kind, Types: slices.Clone(around.Types)}
	fn.Sig.Gens = gensWithin(around.Sig.Gens)
	inner := &body{checker: b.checker, fn: fn}
	out := api.Node{Kind: n.Kind, At: n.At, M: kind}
	for _, capture := range n.Kids[:n.M] {
		out.Kids = append(out.Kids, b.capture(inner, capture))
	}
	last := len(n.Kids) - 1
	inner.begin(n.Kids[n.M:last-1], n.Kids[last-1])
	if kind == api.FnSpawn && !b.has(around.Sig.Gens, api.TrSend, inner.out) {
		refuse(api.ErrSend, n.At)
	}
	t := inner.typeOfClosure()
	done := inner.done(n.Kids[last])
	out.N = len(b.given.Fns) + len(b.closures)
	b.closures = append(b.closures, done)
	return out, t
}

// gensWithin are the type parameters of a function as a closure within it has them: its lifetimes are others.
func gensWithin(gens []api.Gen) []api.Gen {
	var out []api.Gen
	for _, gen := range gens {
		lives := slices.DeleteFunc(slices.Clone(gen.Lives), func(life int) bool { return life != -1 })
		out = append(out, api.Gen{Traits: slices.Clone(gen.Traits), Lives: lives})
	}
	return out
}

// capture makes a name in sight one that a closure has.
func (b *body) capture(inner *body, n api.Node) api.Node {
	known, ok := b.seen(n.Name)
	if !ok {
		refuse(api.ErrName, n.At)
	}
	if _, twice := inner.seen(n.Name); twice {
		refuse(api.ErrTwice, n.At)
	}
	kid, t := b.named(n.At, known)
	kid.Type = b.Tell(t)
	if n.N > 0 {
		t = b.Ref(n.N == 2, t)
	}
	if inner.fn.Kind == api.FnSpawn && !b.has(b.fn.Sig.Gens, api.TrSend, t) {
		refuse(api.ErrSend, n.At)
	}
	inner.names = append(inner.names, name{text: n.Name, captured: true, n: len(inner.env)})
	inner.env = append(inner.env, t)
	inner.fn.Env = append(inner.fn.Env, b.Tell(t))
	return api.Node{Kind: api.ECapture, At: n.At, N: n.N, Kids: []api.Node{kid}, Type: b.Tell(t)}
}

// begin gives a closure its variables, of which the first one is what it has captured, and its signature.
func (b *body) begin(params []api.Node, result api.Node) {
	self := b.Tuple(b.env)
	if b.fn.Kind == api.FnFn || b.fn.Kind == api.FnMut {
		self = b.Ref(b.fn.Kind == api.FnMut, self)
	}
	first := b.Tell(self)
	lives := countLives(&first, 0)
	b.vars = []shapes.Type{self}
	b.fn.Vars = []api.Local{{Mut: true, Type: first}}
	for _, param := range params {
		if _, twice := b.seen(param.Name); twice {
			refuse(api.ErrTwice, param.At)
		}
		b.variable(param.Name, param.M == 1, b.written(param.Kids[0], true))
	}
	b.out = b.written(result, true)
	b.fn.Sig.Lives, b.fn.Sig.Out = lives, b.Tell(b.out)
	b.fn.Sig.Ins = b.TellAll(b.vars)
	countLives(&b.fn.Sig.Ins[0], 0)
}

// countLives gives the lifetimes of a type numbers from one on, behind those that there are, and answers how many there are then.
func countLives(t *api.Type, count int) int {
	for i := range t.Lives {
		count++
		t.Lives[i] = count
	}
	for i := range t.Args {
		count = countLives(&t.Args[i], count)
	}
	return count
}

// typeOfClosure is the type of a closure whose function has its signature, or of the handle of a thread.
func (b *body) typeOfClosure() shapes.Type {
	if b.fn.Kind == api.FnSpawn {
		return b.Shaped(api.TyLib, api.LyHandle, b.out)
	}
	return b.Shaped(api.TyFn, b.fn.Kind, append(slices.Clone(b.vars[1:]), b.out)...)
}
