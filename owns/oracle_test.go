package owns

import (
	"slices"

	"holdfast/api"
	"holdfast/lower"
	"holdfast/scope"
)

// oracle finds slowly what Flow and Check have to answer: path by path and local by local, by going along the ways of the code.
type oracle struct {
	p   api.Program
	f   api.FnDef
	may []bool // of each instruction, whether it may panic
}

func newOracle(p api.Program, f api.FnDef) oracle {
	o := oracle{p: p, f: f}
	for n := range f.Code {
		o.may = append(o.may, o.panics(n))
	}
	return o
}

// types are the types of what a place leads through: that of its local, then of what each step leads to.
func (o oracle) types(p api.Place) []api.Type {
	out := []api.Type{o.f.Vars[p.Local].Type}
	for _, s := range p.Steps {
		t := out[len(out)-1]
		switch {
		case s.Kind == api.StepDeref:
			t = t.Args[0]
		case t.Kind == api.TyTuple:
			t = t.Args[s.N]
		case s.Kind == api.StepCase:
			t = scope.Subst(o.p.Datas[t.N].Cases[s.N].Parts[s.M].Type, t.Args)
		default:
			t = scope.Subst(o.p.Datas[t.N].Cases[0].Parts[s.N].Type, t.Args)
		}
		out = append(out, t)
	}
	return out
}

func (o oracle) owns(p api.Place) bool {
	types := o.types(p)
	return lower.Owns(o.p, o.f.Sig.Gens, types[len(types)-1])
}

func direct(p api.Place) bool {
	for _, s := range p.Steps {
		if s.Kind == api.StepDeref {
			return false
		}
	}
	return true
}

func head(p api.Place) api.Place {
	for k, s := range p.Steps {
		if s.Kind == api.StepDeref {
			p.Steps = p.Steps[:k]
			break
		}
	}
	return p
}

func begins(p, with api.Place) bool {
	return p.Local == with.Local && len(p.Steps) >= len(with.Steps) && slices.Equal(p.Steps[:len(with.Steps)], with.Steps)
}

func samePlace(a, b api.Place) bool {
	return begins(a, b) && begins(b, a)
}

func (o oracle) paths() []api.Place {
	var out []api.Place
	for n := range o.f.Vars {
		out = append(out, api.Place{Local: n})
	}
	for _, i := range o.f.Code {
		var places []api.Place
		if i.Op <= api.IPut {
			places = append(places, i.To)
		}
		for _, a := range i.Args {
			if a.Kind == api.OpMove {
				places = append(places, a.Place)
			}
		}
		for _, p := range places {
			if !direct(p) {
				continue
			}
			for k := 1; k <= len(p.Steps); k++ {
				part := api.Place{Local: p.Local, Steps: p.Steps[:k]}
				if !slices.ContainsFunc(out, func(known api.Place) bool { return samePlace(known, part) }) {
					out = append(out, part)
				}
			}
		}
	}
	return out
}

func (o oracle) panics(n int) bool {
	i := o.f.Code[n]
	if n >= o.f.Clean {
		return false
	}
	switch {
	case i.Op == api.IPut:
		return o.owns(i.To)
	case i.Op == api.IEnd:
		return o.owns(api.Place{Local: i.N})
	case i.Op == api.ILib:
		return slices.Contains([]string{"at", "at_mut", "view", "sat", "cut", "view_mut", "mat", "cut_mut", "borrow", "borrow_mut"}, api.StdFn(i.N))
	case i.Op == api.IBin:
		return i.N < api.OEq
	}
	return i.Op == api.ICall || i.Op == api.IMethod || i.Op == api.IInvoke || i.Op == api.IPanic || i.Op == api.IUn && i.N == api.ONeg
}

// next are the instructions that an instruction leads to without a panic.
func (o oracle) next(n int) []int {
	i := o.f.Code[n]
	switch {
	case i.Op == api.IJump:
		return []int{i.N}
	case i.Op == api.IIf && i.N != n+1:
		return []int{i.N, n + 1}
	case i.Op == api.IRet, i.Op == api.IPanic, i.Op == api.IResume:
		return nil
	}
	return []int{n + 1}
}

// stands is how one path stands ahead of an instruction.
type stands struct {
	at    int
	there bool
}

// walked are all ways in which one path may stand.
func (o oracle) walked(path api.Place) map[stands]bool {
	seen := map[stands]bool{}
	var visit func(s stands)
	visit = func(s stands) {
		if seen[s] {
			return
		}
		seen[s] = true
		i := o.f.Code[s.at]
		there := s.there
		for _, a := range i.Args {
			if a.Kind == api.OpMove && direct(a.Place) && begins(path, a.Place) {
				there = false
			}
		}
		gains := i.Op <= api.IPut && direct(i.To) && begins(path, i.To)
		if i.Op == api.IPut && gains {
			there = true
		}
		if i.Op == api.IEnd && path.Local == i.N {
			there = false
		}
		if o.may[s.at] {
			visit(stands{o.f.Clean, there})
		}
		for _, n := range o.next(s.at) {
			visit(stands{n, there || gains})
		}
	}
	visit(stands{0, path.Local >= 1 && path.Local <= len(o.f.Sig.Ins)})
	return seen
}

func usesLocal(i api.Instr, local int) bool {
	for _, a := range i.Args {
		if a.Kind <= api.OpMove && a.Place.Local == local {
			return true
		}
	}
	switch {
	case i.Op == api.IRef, i.Op == api.IMut, i.Op == api.ITag:
		if i.From.Local == local {
			return true
		}
	case i.Op == api.IRet:
		return local == 0
	}
	return i.Op <= api.IPut && len(i.To.Steps) > 0 && i.To.Local == local
}

func dropsLocal(i api.Instr, local int) bool {
	return i.Op == api.IEnd && i.N == local || i.Op == api.IPut && len(i.To.Steps) == 0 && i.To.Local == local
}

// leads says whether a way leads from an instruction to one that wants a local, with none on it that renews it.
func (o oracle) leads(from, local int, wants func(api.Instr, int) bool) bool {
	seen := make([]bool, len(o.f.Code))
	var visit func(n int) bool
	visit = func(n int) bool {
		if seen[n] {
			return false
		}
		seen[n] = true
		i := o.f.Code[n]
		if wants(i, local) {
			return true
		}
		ends := i.Op == api.IEnd && i.N == local
		if o.may[n] && !ends && visit(o.f.Clean) {
			return true
		}
		if ends || i.Op <= api.IPut && len(i.To.Steps) == 0 && i.To.Local == local {
			return false
		}
		return slices.ContainsFunc(o.next(n), visit)
	}
	return visit(from)
}

// there tells Paths, Init and Hole.
func (o oracle) there() api.Flow {
	flow := api.Flow{Paths: o.paths()}
	for range o.f.Code {
		flow.Init, flow.Hole = append(flow.Init, make([]bool, len(flow.Paths))), append(flow.Hole, make([]bool, len(flow.Paths)))
	}
	for k, path := range flow.Paths {
		for s := range o.walked(path) {
			if s.there {
				flow.Init[s.at][k] = true
			} else {
				flow.Hole[s.at][k] = true
			}
		}
	}
	return flow
}

func (o oracle) flow() api.Flow {
	flow := o.there()
	for n := range o.f.Code {
		flow.Live, flow.Drop = append(flow.Live, make([]bool, len(o.f.Vars))), append(flow.Drop, make([]bool, len(o.f.Vars)))
		for local := range o.f.Vars {
			flow.Live[n][local] = o.leads(n, local, usesLocal)
			flow.Drop[n][local] = o.leads(n, local, dropsLocal)
		}
	}
	return flow
}

// mayChange says whether what stands at a place may be changed: the last reference on the way says it, or its owner; but no reference that is not mut may be on the way.
func (o oracle) mayChange(p api.Place) bool {
	may := o.f.Vars[p.Local].Mut
	for k, t := range o.types(p)[:len(p.Steps)] {
		if p.Steps[k].Kind != api.StepDeref {
			continue
		}
		if t.Kind == api.TyRef {
			return false
		}
		may = may || t.Kind == api.TyMut
	}
	return may
}

// fault is the first fault of the function.
func (o oracle) fault(flow api.Flow) api.Fault {
	for n, i := range o.f.Code[:o.f.Clean] {
		if kind := o.wrong(flow.Paths, slices.Clone(flow.Init[n]), slices.Clone(flow.Hole[n]), i); kind != api.OK {
			return api.Fault{Kind: kind, At: i.At}
		}
	}
	return api.Fault{}
}

func (o oracle) wrong(paths []api.Place, init, hole []bool, i api.Instr) api.Errno {
	whole := func(p api.Place) bool {
		for k, path := range paths {
			if hole[k] && (begins(path, head(p)) || begins(head(p), path)) {
				return false
			}
		}
		return true
	}
	for _, a := range i.Args {
		if a.Kind <= api.OpMove && !whole(a.Place) {
			return api.ErrHole
		}
		if a.Kind != api.OpMove {
			continue
		}
		for k, t := range o.types(a.Place)[:len(a.Place.Steps)] {
			if a.Place.Steps[k].Kind == api.StepDeref || t.Kind == api.TyData && o.p.Datas[t.N].Drop >= 0 {
				return api.ErrMove
			}
		}
		for k, path := range paths {
			if begins(path, a.Place) {
				init[k], hole[k] = false, true
			}
		}
	}
	reads := i.Op == api.IRef || i.Op == api.IMut || i.Op == api.ITag
	switch {
	case reads && !whole(i.From), i.Op == api.IRet && !whole(api.Place{}):
		return api.ErrHole
	case i.Op == api.IMut && !o.mayChange(i.From):
		return api.ErrMut
	case i.Op > api.IPut:
		return api.OK
	case !direct(i.To) && !whole(i.To):
		return api.ErrHole
	}
	again := false
	for k, path := range paths {
		if direct(i.To) && hole[k] && begins(i.To, path) && !samePlace(i.To, path) {
			return api.ErrHole
		}
		again = again || init[k] && path.Local == i.To.Local
	}
	switch {
	case len(i.To.Steps) == 0 && !o.f.Vars[i.To.Local].Mut && again:
		return api.ErrAgain
	case len(i.To.Steps) > 0 && !o.mayChange(i.To):
		return api.ErrMut
	}
	return api.OK
}
