package emit

import (
	"slices"
	"strconv"

	"holdfast/api"
	"holdfast/shapes"
)

// facts are what code hangs on of a type: how many words it weighs, of which no more than one more than MaxWords are counted, and whether there is something to be done when a value of it is dropped.
type facts struct {
	weight int
	owns   bool
}

// types knows the types that come up.
type types struct {
	shapes.Types
	known map[shapes.Type]facts
	// Of data types, by their number and the facts of their Args: what hangs on these alone is found out once, however many types have them.
	datas map[string]facts
	// The types of locals. A value stands in a local before it stands in another value, or on the heap: so there is no tuple and no data of any other type.
	locals map[shapes.Type]struct{}
}

func newTypes(p api.Program) types {
	t := types{Types: shapes.New(p.Datas), known: map[shapes.Type]facts{}, datas: map[string]facts{}, locals: map[shapes.Type]struct{}{}}
	for _, f := range p.Fns {
		for _, v := range f.Vars {
			t.locals[t.Of(v.Type)] = struct{}{}
		}
	}
	return t
}

func (t *types) weight(of shapes.Type) int {
	return t.facts(of).weight
}

func (t *types) owns(of shapes.Type) bool {
	return t.facts(of).owns
}

// comesUp says whether there may be values of a type.
func (t *types) comesUp(of shapes.Type) bool {
	switch t.Shape(of).Kind {
	case api.TyTuple, api.TyData:
		_, ok := t.locals[of]
		return ok
	}
	return true
}

// dropped says whether there may be values of a type for which something is to be done when they are dropped.
func (t *types) dropped(of shapes.Type) bool {
	return t.owns(of) && t.comesUp(of)
}

// anyDropped says the same of the types of parts, whether it holds of one.
func (t *types) anyDropped(parts []part) bool {
	return slices.ContainsFunc(parts, func(p part) bool { return t.dropped(p.kind) })
}

// facts are those of a type without type parameters.
func (t *types) facts(of shapes.Type) facts {
	known, ok := t.known[of]
	if !ok {
		known = t.found(of, t.facts)
		t.known[of] = known
	}
	return known
}

// found finds the facts of a type by those of its Args.
func (t *types) found(of shapes.Type, each func(shapes.Type) facts) facts {
	s := t.Shape(of)
	switch s.Kind {
	case api.TyFn:
		return facts{1, true}
	case api.TyTuple:
		return together(s.Args, each)
	case api.TyLib:
		return ofLib(s, each)
	case api.TyData:
		var args []facts
		for _, arg := range s.Args {
			args = append(args, each(arg))
		}
		return t.ofData(s.N, args)
	}
	return facts{1, false}
}

// together are the facts of what is made of parts.
func together(parts []shapes.Type, each func(shapes.Type) facts) facts {
	var out facts
	for _, part := range parts {
		of := each(part)
		out.weight = min(out.weight+of.weight, api.MaxWords+1)
		out.owns = out.owns || of.owns
	}
	return out
}

func ofLib(s shapes.Shape, each func(shapes.Type) facts) facts {
	switch s.N {
	case api.LyVec:
		return facts{3, true}
	case api.LySlice, api.LySliceMut:
		return facts{2, false}
	case api.LyCell:
		return each(s.Args[0])
	case api.LyRefCell, api.LyMutex:
		content := each(s.Args[0])
		content.weight = min(content.weight+1, api.MaxWords+1)
		return content
	}
	return facts{1, true}
}

// ofData finds the facts of a data type whose Args have these facts.
func (t *types) ofData(n int, args []facts) facts {
	text := strconv.AppendInt(nil, int64(n), 10)
	for _, arg := range args {
		text = strconv.AppendBool(strconv.AppendInt(append(text, ' '), int64(arg.weight), 10), arg.owns)
	}
	known, ok := t.datas[string(text)]
	if !ok {
		// A data type that holds itself, as no text has one, comes to an end by this.
		t.datas[string(text)] = facts{api.MaxWords + 1, true}
		known = t.ofCases(n, args)
		t.datas[string(text)] = known
	}
	return known
}

func (t *types) ofCases(n int, args []facts) facts {
	var out facts
	for _, variant := range t.Datas[n].Cases {
		var parts []shapes.Type
		for _, part := range variant.Parts {
			parts = append(parts, t.Of(part.Type))
		}
		of := together(parts, func(part shapes.Type) facts { return t.under(part, args) })
		out.weight = max(out.weight, of.weight)
		out.owns = out.owns || of.owns
	}
	if t.Datas[n].Enum {
		out.weight = min(out.weight+1, api.MaxWords+1)
	}
	out.owns = out.owns || t.Datas[n].Drop >= 0
	return out
}

// under are the facts of a type in which the type parameters have these facts.
func (t *types) under(of shapes.Type, args []facts) facts {
	if s, ok := t.Is(api.TyParam, of); ok {
		return args[s.N]
	}
	return t.found(of, func(arg shapes.Type) facts { return t.under(arg, args) })
}

// part is a part of a value: its type, and how many words stand ahead of it.
type part struct {
	kind shapes.Type
	at   int
}

// lined lines parts up behind one another.
func (t *types) lined(kinds []shapes.Type, at int) []part {
	var out []part
	for _, kind := range kinds {
		out = append(out, part{kind, at})
		at += t.weight(kind)
	}
	return out
}

// parts are the parts of a tuple, of a variant of a data type, or of a cell.
func (t *types) parts(of shapes.Type, variant int) []part {
	s := t.Shape(of)
	switch s.Kind {
	case api.TyTuple:
		return t.lined(s.Args, 0)
	case api.TyData:
		var kinds []shapes.Type
		for _, part := range t.Datas[s.N].Cases[variant].Parts {
			kinds = append(kinds, t.Put(t.Of(part.Type), s.Args))
		}
		if t.Datas[s.N].Enum {
			return t.lined(kinds, 1)
		}
		return t.lined(kinds, 0)
	case api.TyLib:
		if s.N == api.LyCell {
			return t.lined(s.Args, 0)
		}
		return t.lined(s.Args, 1)
	}
	return nil
}

// stepped is the part that a step within a value leads to.
func (t *types) stepped(of shapes.Type, step api.Step) part {
	if step.Kind == api.StepCase {
		return t.parts(of, step.N)[step.M]
	}
	return t.parts(of, 0)[step.N]
}

// variants is how many variants an enum has.
func (t *types) variants(kind shapes.Type) int {
	return len(t.Datas[t.Shape(kind).N].Cases)
}
