package borrow

import "holdfast/api"

// fault answers the first fault of the function.
func (l *lender) fault() api.Fault {
	for n, i := range l.Code {
		if l.isRefused(n) {
			return api.Fault{Kind: api.ErrLoan, At: i.At}
		}
	}
	if l.needsMore() {
		return api.Fault{Kind: api.ErrLives, At: l.At}
	}
	return api.Fault{}
}

// isRefused says whether an instruction touches what is lent.
func (l *lender) isRefused(n int) bool {
	out := l.out[n].Numbers(len(l.loans))
	if len(out) == 0 {
		return false
	}
	for _, t := range l.touches(n) {
		for _, k := range out {
			if l.clashes(t, l.loans[k].Loan) {
				return true
			}
		}
	}
	return false
}

// needsMore says whether a universal region has to outlive another one, of which the signature does not say so.
func (l *lender) needsMore() bool {
	said := l.said()
	for long := range l.universals {
		for short := range l.universals {
			if l.has(long, len(l.Code)+short) && !said.has(long, short) {
				return true
			}
		}
	}
	return false
}

// said are the universal regions, with those of each that it outlives as the signature says.
func (l *lender) said() *regions {
	said := &regions{bound: l.universals}
	for universal := range l.universals {
		said.add()
		said.give(universal, universal)
	}
	for universal := range l.universals {
		said.outlive(static, universal)
	}
	l.demand(said, l.self)
	said.solve()
	return said
}
