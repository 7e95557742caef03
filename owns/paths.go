package owns

import (
	"holdfast/api"
	"holdfast/ways"
)

// paths are the places that are told apart: each local, and what direct places that are given or moved begin with. They have the numbers in which they have come up.
type paths struct {
	places []api.Place
	below  [][]int        // of each path those with one step more
	longer map[branch]int // the same ones, by that step
}

// branch is a path and a step behind it.
type branch struct {
	path int
	step api.Step
}

// pathsOf are the paths of a function.
func pathsOf(f api.FnDef) *paths {
	all := &paths{longer: map[branch]int{}}
	for n := range f.Vars {
		all.grow(api.Place{Local: n})
	}
	for _, i := range f.Code {
		if ways.Gives(i) {
			all.add(i.To)
		}
		for _, arg := range i.Args {
			if arg.Kind == api.OpMove {
				all.add(arg.Place)
			}
		}
	}
	return all
}

func (a *paths) grow(place api.Place) int {
	a.places = append(a.places, place)
	a.below = append(a.below, nil)
	return len(a.places) - 1
}

// add adds what a place begins with, if it is direct.
func (a *paths) add(place api.Place) {
	if !ways.IsDirect(place) {
		return
	}
	at := place.Local
	for k, step := range place.Steps {
		next, ok := a.longer[branch{at, step}]
		if !ok {
			next = a.grow(api.Place{Local: place.Local, Steps: place.Steps[:k+1]})
			a.longer[branch{at, step}] = next
			a.below[at] = append(a.below[at], next)
		}
		at = next
	}
}

// along are the paths with which a place's head begins, the shortest one first. The head itself need not be among them.
func (a *paths) along(place api.Place) (found []int, hasHead bool) {
	found = []int{place.Local}
	for k, step := range place.Steps {
		if ways.IsDeref(step) {
			break
		}
		next, ok := a.longer[branch{found[k], step}]
		if !ok {
			return found, false
		}
		found = append(found, next)
	}
	return found, true
}

// under are the paths that begin with a path, itself first.
func (a *paths) under(path int) []int {
	found := []int{path}
	for k := 0; k < len(found); k++ {
		found = append(found, a.below[found[k]]...)
	}
	return found
}

// of are the paths that begin with a place, if it is direct.
func (a *paths) of(place api.Place) []int {
	if !ways.IsDirect(place) {
		return nil
	}
	found, hasHead := a.along(place)
	if !hasHead {
		return nil
	}
	return a.under(found[len(found)-1])
}

// around are the paths that begin with a place's head, or with which that begins.
func (a *paths) around(place api.Place) []int {
	found, hasHead := a.along(place)
	if hasHead {
		last := len(found) - 1
		found = append(found[:last], a.under(found[last])...)
	}
	return found
}
