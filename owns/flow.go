package owns

import (
	"slices"

	"holdfast/api"
	"holdfast/sets"
	"holdfast/ways"
)

// change is what an instruction does with paths: those that it loses at first, those that are there even if it panics, those that are there if it does not.
type change struct {
	lost, put, given []int
}

func (c *code) changeOf(i api.Instr) change {
	var out change
	for _, arg := range i.Args {
		if arg.Kind == api.OpMove {
			out.lost = append(out.lost, c.paths.of(arg.Place)...)
		}
	}
	if i.Op == api.IEnd {
		out.lost = c.paths.under(i.N)
	}
	if i.Op == api.IPut {
		out.put = c.paths.of(i.To)
	}
	if ways.Gives(i) {
		out.given = c.paths.of(i.To)
	}
	return out
}

// there finds how the paths stand ahead of each instruction.
func (c *code) there() []state {
	ahead := make([]state, len(c.Code))
	changes := make([]change, len(c.Code))
	order := make([]int, len(c.Code))
	for n, i := range c.Code {
		ahead[n] = newState(len(c.paths.places))
		changes[n] = c.changeOf(i)
		order[n] = n
	}
	for n := range c.Vars {
		ahead[0].lose(c.paths.under(n))
	}
	for n := range c.Sig.Ins {
		ahead[0].gain(c.paths.under(n + 1))
	}
	now := newState(len(c.paths.places))
	sets.Settle(order, func(n int) []int {
		if !ahead[n].isReached() {
			return nil
		}
		now.become(ahead[n])
		now.lose(changes[n].lost)
		now.gain(changes[n].put)
		var changed []int
		if c.Panics[n] && ahead[c.Clean].meet(now) {
			changed = append(changed, c.Clean)
		}
		now.gain(changes[n].given)
		for _, next := range c.Behind(n) {
			if ahead[next].meet(now) {
				changed = append(changed, next)
			}
		}
		return changed
	})
	return ahead
}

// uses are the locals that an instruction uses.
func uses(i api.Instr) []int {
	var out []int
	for _, arg := range i.Args {
		if arg.Kind == api.OpCopy || arg.Kind == api.OpMove {
			out = append(out, arg.Place.Local)
		}
	}
	switch i.Op {
	case api.IRef, api.IMut, api.ITag:
		out = append(out, i.From.Local)
	case api.IRet:
		out = append(out, 0)
	}
	if ways.Gives(i) && len(i.To.Steps) > 0 {
		out = append(out, i.To.Local)
	}
	return out
}

// drops are the locals that an instruction drops.
func drops(i api.Instr) []int {
	switch {
	case i.Op == api.IEnd:
		return []int{i.N}
	case i.Op == api.IPut && len(i.To.Steps) == 0:
		return []int{i.To.Local}
	}
	return nil
}

// wanted finds, ahead of each instruction, which locals an instruction may want before they are renewed.
func (c *code) wanted(wants func(api.Instr) []int) []sets.Set {
	ahead := make([]sets.Set, len(c.Code))
	from := make([][]int, len(c.Code)) // of each instruction those that lead to it
	order := make([]int, len(c.Code))
	for n := range c.Code {
		ahead[n] = sets.New(len(c.Vars))
		for _, next := range c.Behind(n) {
			from[next] = append(from[next], n)
		}
		if c.Panics[n] {
			from[c.Clean] = append(from[c.Clean], n)
		}
		order[n] = n
	}
	slices.Reverse(order)
	now := sets.New(len(c.Vars))
	sets.Settle(order, func(n int) []int {
		i := c.Code[n]
		clear(now)
		for _, next := range c.Behind(n) {
			now.Join(ahead[next])
		}
		if ways.Gives(i) && len(i.To.Steps) == 0 {
			now.Remove(i.To.Local)
		}
		if c.Panics[n] { // then what it would give does not come
			now.Join(ahead[c.Clean])
		}
		if i.Op == api.IEnd { // but what it ends has ended all the same
			now.Remove(i.N)
		}
		for _, local := range wants(i) {
			now.Add(local)
		}
		if ahead[n].Join(now) {
			return from[n]
		}
		return nil
	})
	return ahead
}
