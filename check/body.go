package check

import (
	"slices"

	"holdfast/api"
	"holdfast/scope"
	"holdfast/shapes"
)

// name is a name in sight: of a variable, or of what is captured, and which one.
type name struct {
	text     string
	captured bool
	n        int
}

// body is a function whose body is looked at.
type body struct {
	*checker
	fn    api.FnDef     // with the variables that have come so far
	vars  []shapes.Type // the types of the variables
	env   []shapes.Type // the types of what is captured
	out   shapes.Type   // what the function gives
	names []name        // those in sight
	loops []int         // of each loop around, how many EBreaks are of it
}

// function looks at the body of a function that the program has.
func (c *checker) function(f api.FnDef, block api.Node) api.FnDef {
	b := &body{checker: c, fn: f, out: c.Of(f.Sig.Out)}
	for i, v := range f.Vars {
		b.vars = append(b.vars, c.Of(v.Type))
		b.names = append(b.names, name{text: v.Name, n: i})
	}
	return b.done(block)
}

// done is the function once its block has been looked at.
func (b *body) done(block api.Node) api.FnDef {
	block, _ = b.look(block, b.out)
	b.fn.Body = block
	return b.fn
}

// variable makes a variable, whose name comes in sight, and answers its number.
func (b *body) variable(text string, mut bool, t shapes.Type) int {
	n := len(b.vars)
	b.fn.Vars = append(b.fn.Vars, api.Local{Name: text, Mut: mut, Type: b.Tell(t)})
	b.vars = append(b.vars, t)
	b.names = append(b.names, name{text: text, n: n})
	return n
}

// seen answers what is in sight by a name: of several the last one.
func (b *body) seen(text string) (name, bool) {
	for _, known := range slices.Backward(b.names) {
		if known.text == text {
			return known, true
		}
	}
	return name{}, false
}

// named is the node of a name in sight.
func (b *body) named(at int, known name) (api.Node, shapes.Type) {
	if known.captured {
		return api.Node{Kind: api.ECap, At: at, N: known.n, Name: known.text}, b.env[known.n]
	}
	return api.Node{Kind: api.EVar, At: at, N: known.n, Name: known.text}, b.vars[known.n]
}

// written makes a type that is written in the body.
func (b *body) written(n api.Node, within bool) shapes.Type {
	t, fault := scope.Written(b.given, b.fn, n, within)
	if fault.Kind != api.OK {
		refuse(fault.Kind, fault.At)
	}
	return b.Of(t)
}

// found answers what a path says.
func (b *body) found(n api.Node) (api.Named, string) {
	item, behind, wrong := scope.Find(b.given, b.fn.Mod, n.Name)
	if wrong != api.OK {
		refuse(wrong, n.At)
	}
	return item, behind
}

// look looks at an expression with a type that is wanted, or none, and answers its typed node and its type.
func (b *body) look(n api.Node, wanted shapes.Type) (api.Node, shapes.Type) {
	typed, t := b.expression(n, wanted)
	if b.TooBig(t) {
		refuse(api.ErrMany, typed.At)
	}
	if wanted != shapes.None && t != shapes.Never && t != wanted {
		refuse(api.ErrType, typed.At)
	}
	typed.Type = b.Tell(t)
	return typed, t
}

// value looks at an expression that gives a value: one that goes elsewhere counts as what is wanted.
func (b *body) value(n api.Node, wanted shapes.Type) (api.Node, shapes.Type) {
	typed, t := b.look(n, wanted)
	switch {
	case t != shapes.Never:
		return typed, t
	case wanted != shapes.None:
		return typed, wanted
	}
	return typed, shapes.Empty
}

// values looks at expressions of which each has a type that is wanted.
func (b *body) values(nodes []api.Node, wanted []shapes.Type) ([]api.Node, []shapes.Type) {
	var typed []api.Node
	var own []shapes.Type
	for i, n := range nodes {
		kid, t := b.value(n, wanted[i])
		typed, own = append(typed, kid), append(own, t)
	}
	return typed, own
}
