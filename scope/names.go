package scope

import (
	"slices"

	"holdfast/api"
)

// stdNames are the names that every module sees if it has no others of that name. They are put together for each path that is looked up, so there is room for all of them from the beginning.
func stdNames() map[string]api.Named {
	names := make(map[string]api.Named, 1+api.StdTypes+api.TrFirst+api.Libs)
	add := func(name string, sort, n int) {
		names[name] = api.Named{Name: name, Sort: sort, N: n, Pub: true}
	}
	add(api.StdOption().Name, api.SortData, 0)
	for n := range api.StdTypes {
		add(api.StdType(n), api.SortType, n)
	}
	for n := range api.TrFirst {
		add(api.StdTrait(n), api.SortTrait, n)
	}
	for n := range api.Libs {
		add(api.StdFn(n), api.SortLib, n)
	}
	return names
}

// lookup is what paths are looked up in.
type lookup struct {
	mods []api.Module
	std  map[string]api.Named
}

// find says what the names of a path say in a module.
func (l lookup) find(mod int, path []string) (api.Named, string, api.Errno) {
	if first, ok := l.seen(mod, path[0]); ok {
		return ended(first, path[1:])
	}
	if len(path) == 1 {
		return api.Named{}, "", api.ErrName
	}
	item, wrong := l.itemOf(mod, path[0], path[1])
	if wrong != api.OK {
		return api.Named{}, "", wrong
	}
	return ended(item, path[2:])
}

// ended is what a path says of which an item has been found: at most one name may be behind it.
func ended(item api.Named, rest []string) (api.Named, string, api.Errno) {
	switch len(rest) {
	case 0:
		return item, "", api.OK
	case 1:
		return item, rest[0], api.OK
	}
	return api.Named{}, "", api.ErrName
}

// seen answers what a module sees by a name.
func (l lookup) seen(mod int, name string) (api.Named, bool) {
	if mod >= 0 && mod < len(l.mods) {
		// No two names of a module are the same, so that its own need not be asked for ahead of the others.
		if item, ok := named(l.mods[mod].Names, name); ok {
			return item, true
		}
	}
	item, ok := l.std[name]
	return item, ok
}

// itemOf answers an item of a module's own, as it is seen from a module.
func (l lookup) itemOf(from int, mod, name string) (api.Named, api.Errno) {
	m := moduleNamed(l.mods, mod)
	if m < 0 {
		return api.Named{}, api.ErrName
	}
	item, ok := named(ownNames(l.mods[m]), name)
	switch {
	case !ok:
		return api.Named{}, api.ErrName
	case !item.Pub && m != from:
		return api.Named{}, api.ErrPrivate
	}
	return item, api.OK
}

func moduleNamed(mods []api.Module, name string) int {
	return slices.IndexFunc(mods, func(m api.Module) bool { return m.Name == name })
}

// ownNames are the names of a module's own items. A module that Items has not made may tell of more than it has.
func ownNames(m api.Module) []api.Named {
	return m.Names[:max(0, min(m.Own, len(m.Names)))]
}

func named(names []api.Named, name string) (api.Named, bool) {
	i := slices.IndexFunc(names, func(n api.Named) bool { return n.Name == name })
	if i < 0 {
		return api.Named{}, false
	}
	return names[i], true
}
