package borrow

import (
	"slices"

	"holdfast/api"
	"holdfast/graph"
	"holdfast/ways"
)

// rules are what instructions say of regions, by their kinds. Those that have none say nothing.
func rules() [api.IResume + 1]func(*lender, int) {
	return [api.IResume + 1]func(*lender, int){
		api.IUse:    (*lender).use,
		api.IPut:    (*lender).use,
		api.ITuple:  (*lender).tuple,
		api.IMake:   (*lender).call,
		api.ICall:   (*lender).call,
		api.ILib:    (*lender).call,
		api.IMethod: (*lender).call,
		api.IClos:   (*lender).capture,
		api.ISpawn:  (*lender).capture,
		api.IInvoke: (*lender).invoke,
		api.IRef:    (*lender).lend,
		api.IMut:    (*lender).lend,
	}
}

// pass says that an operand is of a type. One that is no place says nothing.
func (l *lender) pass(o api.Oper, to kind) {
	if isPlace(o) {
		l.beOf(l.at(o.Place), to)
	}
}

func isPlace(o api.Oper) bool {
	return o.Kind == api.OpCopy || o.Kind == api.OpMove
}

func (l *lender) use(n int) {
	i := l.Code[n]
	l.pass(i.Args[0], l.at(i.To))
}

func (l *lender) tuple(n int) {
	i := l.Code[n]
	for k, to := range l.args(l.at(i.To)) {
		l.pass(i.Args[k], to)
	}
}

// call hangs on what a signature says, and on nothing else of what is called.
func (l *lender) call(n int) {
	i := l.Code[n]
	sig, _ := graph.Called(l.program, i)
	var types []kind
	for _, t := range i.Types {
		types = append(types, l.fresh(l.Of(t)))
	}
	s := l.sign(sig, l.addSome(sig.Lives), types)
	l.demand(&l.regions, s)
	for k, in := range s.ins {
		l.pass(i.Args[k], in)
	}
	l.beOf(s.out, l.at(i.To))
}

// capture lets what a closure captures last as long as that does, and what a thread captures for ever.
func (l *lender) capture(n int) {
	i := l.Code[n]
	short := static
	if i.Op == api.IClos {
		short = l.at(i.To).regions[0]
	}
	for _, arg := range i.Args {
		if !isPlace(arg) {
			continue
		}
		for _, long := range l.all(l.at(arg.Place)) {
			l.outlive(long, short)
		}
	}
}

func (l *lender) invoke(n int) {
	i := l.Code[n]
	closure := l.at(i.Args[0].Place)
	if l.Shape(closure.shape).Kind != api.TyFn {
		closure = l.args(closure)[0]
	}
	args := l.args(closure)
	last := len(args) - 1
	for k, to := range args[:last] {
		l.pass(i.Args[k+1], to)
	}
	l.beOf(args[last], l.at(i.To))
}

// lend is for an instruction that makes a reference. The references on the way to what it leads to have to last as long as the loan, back to the first one that is not mut: what that leads to stays as it is whatever becomes of those ahead of it, and is lent already.
func (l *lender) lend(n int) {
	i := l.Code[n]
	to, along := l.at(i.To), l.along(i.From)
	from, led := along[len(along)-1], l.args(to)[0]
	l.beOf(from, led)
	if i.Op == api.IMut {
		l.beOf(led, from)
	}
	region := l.add()
	l.outlive(region, to.regions[0])
	for k, step := range slices.Backward(i.From.Steps) {
		through := l.Shape(along[k].shape).Kind
		if !ways.IsDeref(step) || through != api.TyRef && through != api.TyMut {
			continue
		}
		l.outlive(along[k].regions[0], region)
		if through == api.TyRef {
			return
		}
	}
	l.loans = append(l.loans, loan{api.Loan{At: n, Place: i.From, Mut: i.Op == api.IMut}, region})
}
