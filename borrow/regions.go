package borrow

import (
	"slices"

	"holdfast/sets"
)

// regions are sets, each of which has what those have that it outlives. What they have by themselves, and which outlives which, is told first; solve then finds the least of them.
type regions struct {
	bound           int        // what they have is below it
	base            []sets.Set // of each region what it has by itself; nil: nothing
	longer, shorter [][]int    // of each region those that outlive it, and those that it outlives
	group           []int      // of each region which of the groups it belongs to, or -1
	groups          []sets.Set // what the regions of a group have: they outlive one another
}

// add answers a new region.
func (r *regions) add() int {
	r.base = append(r.base, nil)
	r.longer, r.shorter = append(r.longer, nil), append(r.shorter, nil)
	r.group = append(r.group, -1)
	return len(r.base) - 1
}

// addSome answers so many new regions.
func (r *regions) addSome(many int) []int {
	var out []int
	for range many {
		out = append(out, r.add())
	}
	return out
}

// give gives a region something by itself.
func (r *regions) give(region, n int) {
	if r.base[region] == nil {
		r.base[region] = sets.New(r.bound)
	}
	r.base[region].Add(n)
}

// outlive says that a region outlives another one.
func (r *regions) outlive(long, short int) {
	if long != short {
		r.longer[short] = append(r.longer[short], long)
		r.shorter[long] = append(r.shorter[long], short)
	}
}

// has says whether a region has something, once they are found.
func (r *regions) has(region, n int) bool {
	return r.groups[r.group[region]].Has(n)
}

// solve finds what the regions have. Going back through ordered, each group comes behind all those that it outlives.
func (r *regions) solve() {
	for _, region := range slices.Backward(r.ordered()) {
		if r.group[region] < 0 {
			r.gather(region)
		}
	}
}

// ordered are the regions as they are left, when those that outlive one are gone through ahead of leaving it.
func (r *regions) ordered() []int {
	var order, open []int
	next := make([]int, len(r.base)) // of each region how many of those that outlive it have been gone through
	seen := sets.New(len(r.base))
	enter := func(region int) {
		if !seen.Has(region) {
			seen.Add(region)
			open = append(open, region)
		}
	}
	for region := range r.base {
		enter(region)
		for len(open) > 0 {
			last := open[len(open)-1]
			if next[last] < len(r.longer[last]) {
				next[last]++
				enter(r.longer[last][next[last]-1])
				continue
			}
			open = open[:len(open)-1]
			order = append(order, last)
		}
	}
	return order
}

// gather makes a group of all regions that a region outlives and that are in no group yet: these outlive it too.
func (r *regions) gather(first int) {
	group := len(r.groups)
	members := []int{first}
	r.group[first] = group
	var parts []sets.Set
	for k := 0; k < len(members); k++ {
		if base := r.base[members[k]]; base != nil {
			parts = append(parts, base)
		}
		for _, short := range r.shorter[members[k]] {
			switch {
			case r.group[short] < 0:
				r.group[short] = group
				members = append(members, short)
			case r.group[short] != group:
				parts = append(parts, r.groups[r.group[short]])
			}
		}
	}
	r.groups = append(r.groups, r.union(parts))
}

// union is what some sets have together. Nobody writes into them any more, so that one alone needs no copy.
func (r *regions) union(parts []sets.Set) sets.Set {
	if len(parts) == 1 {
		return parts[0]
	}
	all := sets.New(r.bound)
	for _, part := range parts {
		all.Join(part)
	}
	return all
}
