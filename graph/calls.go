package graph

import (
	"slices"

	"holdfast/api"
	"holdfast/check"
	"holdfast/scope"
	"holdfast/shapes"
)

func (j *judge) isOperation(i api.Instr) bool {
	switch {
	case i.Op == api.IUn && i.N == api.ONot:
		return j.takes(i, shapes.Bool) && j.gives(i, shapes.Bool)
	case i.Op == api.IUn:
		return i.N == api.ONeg && j.takes(i, shapes.Int) && j.gives(i, shapes.Int)
	case i.N == api.OEq || i.N == api.ONe:
		return (j.takes(i, shapes.Int, shapes.Int) || j.takes(i, shapes.Bool, shapes.Bool)) && j.gives(i, shapes.Bool)
	case i.N >= api.OAdd && i.N <= api.ORem:
		return j.takes(i, shapes.Int, shapes.Int) && j.gives(i, shapes.Int)
	}
	return i.N >= api.OLt && i.N <= api.OGe && j.takes(i, shapes.Int, shapes.Int) && j.gives(i, shapes.Bool)
}

// Called is the signature of what an instruction calls or makes, if there is such a thing.
func Called(p api.Program, i api.Instr) (api.Sig, bool) {
	switch i.Op {
	case api.ICall:
		if isOne(i.N, len(p.Fns)) && p.Fns[i.N].Kind == api.FnPlain {
			return p.Fns[i.N].Sig, true
		}
	case api.ILib:
		return api.StdSig(i.N), isOne(i.N, api.Libs)
	case api.IMethod:
		if i.N >= api.TrFirst && i.N < len(p.Traits) && isOne(i.M, len(p.Traits[i.N].Methods)) {
			return check.MethodSig(i.N, p.Traits[i.N].Methods[i.M]), true
		}
	case api.IMake:
		if isOne(i.N, len(p.Datas)) && isOne(i.M, len(p.Datas[i.N].Cases)) {
			return check.CaseSig(p.Datas[i.N], i.N, i.M), true
		}
	}
	return api.Sig{}, false
}

// isCall says whether an instruction's types, operands and what it gives are as a signature asks for.
func (j *judge) isCall(i api.Instr, sig api.Sig) bool {
	if len(i.Types) != len(sig.Gens) {
		return false
	}
	var with []shapes.Type
	for n, told := range i.Types {
		if !j.isType(told) {
			return false
		}
		t := j.Of(told)
		if slices.ContainsFunc(sig.Gens[n].Traits, func(trait int) bool { return !j.has(trait, t) }) {
			return false
		}
		with = append(with, t)
	}
	ins := j.PutAll(j.OfAll(sig.Ins), with)
	return j.takes(i, ins...) && j.gives(i, j.Put(j.Of(sig.Out), with))
}

// isType says whether there is such a type in the function.
func (j *judge) isType(t api.Type) bool {
	if !j.isHead(t) {
		return false
	}
	return !slices.ContainsFunc(t.Args, func(arg api.Type) bool { return !j.isType(arg) })
}

// isHead says whether there is such a type, if its Args are types.
func (j *judge) isHead(t api.Type) bool {
	args := len(t.Args)
	switch t.Kind {
	case api.TyInt, api.TyBool:
		return args == 0
	case api.TyTuple:
		return true
	case api.TyData:
		return isOne(t.N, len(j.Datas)) && args == j.Datas[t.N].Gens
	case api.TyParam:
		return isOne(t.N, len(j.Sig.Gens)) && args == 0
	case api.TyRef, api.TyMut:
		return args == 1
	case api.TyFn:
		return t.N >= api.FnFn && t.N <= api.FnOnce && args > 0
	case api.TyLib:
		return isOne(t.N, api.StdTypes) && args == 1
	}
	return false
}

// isClosure says whether an IClos or ISpawn of a function is well-formed.
func (j *judge) isClosure(i api.Instr, f api.FnDef) bool {
	env, out := j.OfAll(f.Env), j.Of(f.Sig.Out)
	if f.Kind == api.FnPlain || (f.Kind == api.FnSpawn) != (i.Op == api.ISpawn) || !j.hasParams(i, f) || !j.takes(i, env...) {
		return false
	}
	if i.Op == api.IClos {
		return j.gives(i, j.Shaped(api.TyFn, f.Kind, append(j.OfAll(f.Sig.Ins[1:]), out)...))
	}
	if slices.ContainsFunc(append(env, out), func(t shapes.Type) bool { return !j.has(api.TrSend, t) }) {
		return false
	}
	return j.gives(i, j.Shaped(api.TyLib, api.LyHandle, out))
}

// hasParams says whether an instruction's types are the type parameters of its function, and of the closure's.
func (j *judge) hasParams(i api.Instr, f api.FnDef) bool {
	if len(i.Types) != len(j.Sig.Gens) || len(i.Types) != len(f.Sig.Gens) {
		return false
	}
	for n, t := range i.Types {
		if !scope.Same(t, api.Type{Kind: api.TyParam, N: n}) {
			return false
		}
	}
	return true
}

// isInvoke says whether a closure is called as it may be.
func (j *judge) isInvoke(i api.Instr) bool {
	args := j.operands(i)
	if len(args) == 0 {
		return false
	}
	closure, ok := j.closure(args[0], i.N)
	if !ok || closure.N != i.N {
		return false
	}
	last := len(closure.Args) - 1
	return slices.Equal(args[1:], closure.Args[:last]) && j.gives(i, closure.Args[last])
}

// closure is the closure that an operand is, or leads to, if it is one that is called in this way.
func (j *judge) closure(t shapes.Type, kind int) (shapes.Shape, bool) {
	if kind == api.FnOnce {
		return j.Is(api.TyFn, t)
	}
	ref := api.TyRef
	if kind == api.FnMut {
		ref = api.TyMut
	}
	s, ok := j.Is(ref, t)
	if !ok {
		return shapes.Shape{}, false
	}
	return j.Is(api.TyFn, s.Args[0])
}
