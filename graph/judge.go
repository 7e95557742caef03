package graph

import (
	"slices"

	"holdfast/api"
	"holdfast/shapes"
	"holdfast/traits"
)

// judge says which instructions of a function are well-formed. Types are numbers: a place may have a type that no text could write, it would be so big.
type judge struct {
	api.FnDef
	shapes.Types
	program api.Program
	locals  []shapes.Type
}

func newJudge(p api.Program, f api.FnDef) *judge {
	j := &judge{FnDef: f, Types: shapes.New(p.Datas), program: p}
	for _, v := range f.Vars {
		j.locals = append(j.locals, j.Of(v.Type))
	}
	return j
}

// isOne says whether a number is one of so many.
func isOne(n, many int) bool {
	return n >= 0 && n < many
}

// isWell says whether an instruction may stand ahead of Clean.
func (j *judge) isWell(i api.Instr) bool {
	switch i.Op {
	case api.IUse, api.IPut:
		return len(i.Args) == 1 && j.gives(i, j.operand(i.Args[0]))
	case api.IBin, api.IUn:
		return j.isOperation(i)
	case api.IRef, api.IMut:
		from := j.place(i.From)
		return from != shapes.None && j.gives(i, j.Ref(i.Op == api.IMut, from))
	case api.ITag:
		return j.IsEnum(j.place(i.From)) && j.gives(i, shapes.Int)
	case api.ITuple:
		args := j.operands(i)
		return !slices.Contains(args, shapes.None) && j.gives(i, j.Tuple(args))
	case api.ICall, api.ILib, api.IMethod, api.IMake:
		sig, ok := Called(j.program, i)
		return ok && j.isCall(i, sig)
	case api.IClos, api.ISpawn:
		return isOne(i.N, len(j.program.Fns)) && j.isClosure(i, j.program.Fns[i.N])
	case api.IInvoke:
		return j.isInvoke(i)
	case api.IEnd:
		return i.N > 0 && i.N < len(j.Vars)
	case api.IJump:
		return isOne(i.N, j.Clean)
	case api.IIf:
		return isOne(i.N, j.Clean) && j.takes(i, shapes.Bool)
	}
	return i.Op == api.IRet || i.Op == api.IPanic
}

// gives says whether what an instruction gives is of a type, if there is one.
func (j *judge) gives(i api.Instr, t shapes.Type) bool {
	return t != shapes.None && j.place(i.To) == t
}

// takes says whether an instruction has operands of these types.
func (j *judge) takes(i api.Instr, types ...shapes.Type) bool {
	return slices.Equal(j.operands(i), types)
}

// operands are the types of an instruction's operands.
func (j *judge) operands(i api.Instr) []shapes.Type {
	var out []shapes.Type
	for _, arg := range i.Args {
		out = append(out, j.operand(arg))
	}
	return out
}

// operand is the type of an operand, or none.
func (j *judge) operand(o api.Oper) shapes.Type {
	switch {
	case o.Kind == api.OpInt:
		return shapes.Int
	case o.Kind == api.OpBool && isOne(o.N, 2):
		return shapes.Bool
	case o.Kind == api.OpMove:
		return j.place(o.Place)
	case o.Kind == api.OpCopy:
		if t := j.place(o.Place); t != shapes.None && j.has(api.TrCopy, t) {
			return t
		}
	}
	return shapes.None
}

// has says whether a type has a trait. One that is too big has none.
func (j *judge) has(trait int, t shapes.Type) bool {
	return !j.TooBig(t) && traits.Has(j.program, j.Sig.Gens, trait, j.Tell(t))
}

// place is the type of a place, or none.
func (j *judge) place(p api.Place) shapes.Type {
	return j.Place(j.locals, p)
}
