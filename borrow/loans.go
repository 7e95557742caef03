package borrow

import (
	"holdfast/api"
	"holdfast/sets"
	"holdfast/ways"
)

// loan is a loan, and its region.
type loan struct {
	api.Loan
	region int
}

// outs finds where the loans of a function are out.
type outs struct {
	*lender
	ahead   []sets.Set // of each instruction the loans that are out ahead of it, as far as they are found
	lasting []sets.Set // those whose regions have it
	made    []int      // the one that it makes, or -1
	of      [][]int    // of each local the loans whose places are of it
	now     sets.Set
}

// findOut finds, ahead of each instruction, which loans are out.
func (l *lender) findOut() []sets.Set {
	o := &outs{lender: l, of: make([][]int, len(l.locals)), now: sets.New(len(l.loans))}
	var order []int
	for n := range l.Code {
		o.ahead, o.lasting = append(o.ahead, sets.New(len(l.loans))), append(o.lasting, sets.New(len(l.loans)))
		o.made = append(o.made, -1)
		for k, loan := range l.loans {
			if l.has(loan.region, n) {
				o.lasting[n].Add(k)
			}
		}
		order = append(order, n)
	}
	for k, loan := range l.loans {
		o.made[loan.At] = k
		o.of[loan.Place.Local] = append(o.of[loan.Place.Local], k)
	}
	sets.Settle(order, o.look)
	return o.ahead
}

// look lets the loans that are out ahead of an instruction, and the one that it makes, be out where the code goes on, and answers where that is new.
func (o *outs) look(n int) []int {
	var changed []int
	if o.Panics[n] {
		o.keep(n, o.Code[n].Op == api.IPut)
		changed = o.lead(o.Clean, changed)
	}
	o.keep(n, ways.Gives(o.Code[n]))
	if o.made[n] >= 0 {
		o.now.Add(o.made[n])
	}
	for _, next := range o.Behind(n) {
		changed = o.lead(next, changed)
	}
	return changed
}

// keep sets now to the loans that are out ahead of an instruction and that it does not end. given: whether what it gives comes.
func (o *outs) keep(n int, given bool) {
	i := o.Code[n]
	o.now.Become(o.ahead[n])
	ended := api.Place{Local: i.N}
	switch {
	case given:
		ended = i.To
	case i.Op != api.IEnd:
		return
	}
	for _, k := range o.of[ended.Local] {
		if ways.Begins(o.loans[k].Place, ended) {
			o.now.Remove(k)
		}
	}
}

// lead lets those of now that last there be out ahead of an instruction, and adds it to those where something has changed, if that is new.
func (o *outs) lead(next int, changed []int) []int {
	if o.ahead[next].JoinWithin(o.now, o.lasting[next]) {
		return append(changed, next)
	}
	return changed
}
