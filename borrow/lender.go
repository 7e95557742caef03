package borrow

import (
	"slices"

	"holdfast/api"
	"holdfast/owns"
	"holdfast/sets"
	"holdfast/shapes"
	"holdfast/ways"
)

// lender is a function with the regions of its types, and with the loans that it makes. Regions have instructions, by their numbers, and behind these universal regions: the static one, those of lifetimes, those of type parameters, which are the first regions.
type lender struct {
	kinds
	regions
	program    api.Program
	flow       api.Flow
	self       signed // its own signature, with its universal regions
	universals int
	locals     []kind
	rules      [api.IResume + 1]func(*lender, int) // what each kind of instruction says of regions
	loans      []loan
	out        []sets.Set // ahead of each instruction, the loans that are out
}

func newLender(p api.Program, n int, fixed fixtures) *lender {
	code, sig := ways.Of(p, n), numbered(p.Fns[n].Sig)
	l := &lender{program: p, flow: owns.Flow(p, n), rules: rules()}
	l.kinds = kinds{Ways: code, fixtures: fixed, params: 1 + sig.Lives, known: map[shapes.Type]*outline{}}
	l.universals = l.params + len(sig.Gens)
	l.bound = len(l.Code) + l.universals
	l.declare(sig)
	l.letLast()
	for at, i := range l.Code {
		if rule := l.rules[i.Op]; rule != nil && l.isReached(at) {
			rule(l, at)
		}
	}
	l.solve()
	l.out = l.findOut()
	return l
}

// isReached says whether something leads to an instruction.
func (l *lender) isReached(n int) bool {
	return l.flow.Init[n][0] || l.flow.Hole[n][0]
}

// declare makes the universal regions and the types of locals.
func (l *lender) declare(sig api.Sig) {
	for universal := range l.universals {
		l.add()
		for n := range l.Code {
			l.give(universal, n)
		}
		l.give(universal, len(l.Code)+universal)
	}
	var lives []int
	for n := range sig.Lives {
		lives = append(lives, n+1)
	}
	var types []kind
	for n := range sig.Gens {
		types = append(types, kind{shape: l.Shaped(api.TyParam, n)})
	}
	l.self = l.sign(sig, lives, types)
	for _, t := range l.Locals {
		local := l.fresh(t)
		l.ask(&l.regions, local)
		l.locals = append(l.locals, local)
	}
	for n, told := range append([]kind{l.self.out}, l.self.ins...) {
		l.beOf(told, l.locals[n])
		l.beOf(l.locals[n], told)
	}
}

// fresh is a type with new regions.
func (l *lender) fresh(t shapes.Type) kind {
	return kind{t, l.addSome(len(l.outline(t).fixed))}
}

// beOf says that a type is of another one.
func (l *lender) beOf(one, other kind) {
	for n, fixed := range l.outline(one.shape).fixed {
		l.outlive(one.regions[n], other.regions[n])
		if fixed {
			l.outlive(other.regions[n], one.regions[n])
		}
	}
}

// letLast lets the regions of locals last where these may still be used, and their drop regions where these may still be dropped.
func (l *lender) letLast() {
	for n, local := range l.locals {
		live, drop := l.add(), l.add()
		paths := l.pathsFrom(api.Place{Local: n})
		for at := range l.Code {
			if l.isReached(at) && l.flow.Live[at][n] {
				l.give(live, at)
			}
			if l.flow.Drop[at][n] && l.mayBeThere(at, paths) {
				l.give(drop, at)
			}
		}
		for _, region := range local.regions {
			l.outlive(region, live)
		}
		for _, region := range l.dropRegions(local) {
			l.outlive(region, drop)
		}
	}
}

// pathsFrom are the paths that begin with a place.
func (l *lender) pathsFrom(place api.Place) []int {
	var out []int
	for n, path := range l.flow.Paths {
		if ways.Begins(path, place) {
			out = append(out, n)
		}
	}
	return out
}

// mayBeThere says whether one of some paths may be there ahead of an instruction.
func (l *lender) mayBeThere(at int, paths []int) bool {
	return slices.ContainsFunc(paths, func(path int) bool { return l.flow.Init[at][path] })
}

// along are the types that a place leads through: that of its local, then those of what its steps lead to.
func (l *lender) along(place api.Place) []kind {
	out := []kind{l.locals[place.Local]}
	for n, step := range place.Steps {
		out = append(out, l.step(out[n], step))
	}
	return out
}

// at is the type of a place.
func (l *lender) at(place api.Place) kind {
	along := l.along(place)
	return along[len(along)-1]
}

// tell answers what is known of the function in memory of its own.
func (l *lender) tell() api.Lend {
	lend := api.Lend{}
	for _, local := range l.locals {
		var spans [][]int
		for _, region := range local.regions {
			spans = append(spans, l.span(region))
		}
		lend.Spans = append(lend.Spans, spans)
	}
	for _, loan := range l.loans {
		loan.Place.Steps = slices.Clone(loan.Place.Steps)
		lend.Loans = append(lend.Loans, loan.Loan)
	}
	for _, out := range l.out {
		lend.Out = append(lend.Out, out.Numbers(len(l.loans)))
	}
	return lend
}

// span are the instructions that a region has.
func (l *lender) span(region int) []int {
	return l.groups[l.group[region]].Numbers(len(l.Code))
}
