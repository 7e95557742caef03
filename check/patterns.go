package check

import (
	"slices"

	"holdfast/api"
	"holdfast/cover"
	"holdfast/shapes"
)

func (b *body) match(n api.Node, wanted shapes.Type) (api.Node, shapes.Type) {
	matched, of := b.value(n.Kids[0], shapes.None)
	out := with(n, matched)
	t := shapes.Never
	for _, arm := range n.Kids[1:] {
		names := len(b.names)
		pattern := b.pattern(arm.Kids[0], of, names)
		expression, own := b.look(arm.Kids[1], wanted)
		b.names = b.names[:names]
		if t == shapes.Never {
			t = own
		}
		if t != shapes.Never { // otherwise what is wanted, if anything is, still helps
			wanted = t
		}
		out.Kids = append(out.Kids, with(arm, pattern, expression))
	}
	b.mustCover(out, of)
	return out, t
}

// mustCover refuses a match with an arm that is idle, or that leaves a value.
func (b *body) mustCover(match api.Node, of shapes.Type) {
	arms := match.Kids[1:]
	tests := 0
	var pats []api.Pat
	for _, arm := range arms {
		tests += testsOf(arm.Kids[0])
		pats = append(pats, patOf(arm.Kids[0]))
	}
	if tests > api.MaxTests {
		refuse(api.ErrMany, match.At)
	}
	idle, all := cover.Arms(b.given, b.Tell(of), pats)
	if len(idle) > 0 {
		refuse(api.ErrIdle, arms[idle[0]].At)
	}
	if !all {
		refuse(api.ErrArms, match.At)
	}
}

// testsOf is how many parts of a pattern do not take whatever comes.
func testsOf(n api.Node) int {
	if n.Kind == api.PAny || n.Kind == api.PBind {
		return 0
	}
	tests := 1
	for _, kid := range n.Kids {
		tests += testsOf(kid)
	}
	return tests
}

// patOf is a pattern without its names.
func patOf(n api.Node) api.Pat {
	if n.Kind == api.PAny || n.Kind == api.PBind {
		return api.Pat{Kind: api.PAny}
	}
	pat := api.Pat{Kind: n.Kind, N: n.N, M: n.M}
	for _, kid := range n.Kids {
		pat.Kids = append(pat.Kids, patOf(kid))
	}
	return pat
}

// pattern looks at a pattern of a type. From so many names on those in sight are of the arm.
func (b *body) pattern(n api.Node, of shapes.Type, names int) api.Node {
	if b.TooBig(of) {
		refuse(api.ErrMany, n.At)
	}
	n.Type = b.Tell(of)
	switch n.Kind {
	case api.PInt:
		mustBe(of == shapes.Int, api.ErrType, n.At)
	case api.PBool:
		mustBe(of == shapes.Bool, api.ErrType, n.At)
	case api.PTuple:
		s, ok := b.Is(api.TyTuple, of)
		mustBe(ok, api.ErrType, n.At)
		mustBe(len(s.Args) == len(n.Kids), api.ErrCount, n.At)
		n.Kids = b.patterns(n.Kids, s.Args, names)
	case api.PBind:
		return b.bind(n, of, names)
	case api.PCase:
		return b.variant(n, of, names)
	}
	return n
}

func mustBe(ok bool, kind api.Errno, at int) {
	if !ok {
		refuse(kind, at)
	}
}

func (b *body) patterns(nodes []api.Node, of []shapes.Type, names int) []api.Node {
	var out []api.Node
	for i, n := range nodes {
		out = append(out, b.pattern(n, of[i], names))
	}
	return out
}

// bind makes the variable of a name in a pattern.
func (b *body) bind(n api.Node, of shapes.Type, names int) api.Node {
	if slices.ContainsFunc(b.names[names:], func(known name) bool { return known.text == n.Name }) {
		refuse(api.ErrTwice, n.At)
	}
	if n.N > 0 {
		of = b.Ref(n.N == 2, of)
	}
	mut := n.M == 1
	n.M = n.N
	n.N = b.variable(n.Name, mut, of)
	return n
}

// variant looks at a pattern of an enum.
func (b *body) variant(n api.Node, of shapes.Type, names int) api.Node {
	item, behind := b.found(n)
	mustBe(behind != "" && item.Sort == api.SortData && b.Datas[item.N].Enum, api.ErrSort, n.At)
	data := b.Datas[item.N]
	n.N, n.M = item.N, variantNamed(data, behind, n.At)
	s, ok := b.Is(api.TyData, of)
	mustBe(ok && s.N == item.N, api.ErrType, n.At)
	parts := data.Cases[n.M].Parts
	mustBe(len(parts) == len(n.Kids), api.ErrCount, n.At)
	var types []shapes.Type
	for _, part := range parts {
		types = append(types, b.Put(b.Of(part.Type), s.Args))
	}
	n.Kids = b.patterns(n.Kids, types, names)
	return n
}
