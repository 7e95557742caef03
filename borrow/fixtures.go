package borrow

import "holdfast/api"

// fixture says which of a data type's lifetimes and type parameters stand at a fixed place in some part of it.
type fixture struct {
	lives, types []bool
}

// fixtures are those of all data types, by their numbers.
type fixtures []fixture

// fixturesOf finds the fixtures of data types. One may hang on others, and on itself: nothing is fixed till something says so.
func fixturesOf(datas []api.DataDef) fixtures {
	var all fixtures
	for _, d := range datas {
		all = append(all, fixture{make([]bool, d.Lives), make([]bool, d.Gens)})
	}
	for grown := true; grown; {
		grown = false
		for n, d := range datas {
			grown = all.lookAt(n, d) || grown
		}
	}
	return all
}

// lookAt looks at the parts of a data type, and says whether more of it is fixed than was known.
func (f fixtures) lookAt(n int, d api.DataDef) bool {
	grown := false
	for _, variant := range d.Cases {
		for _, part := range variant.Parts {
			grown = f.mark(f[n], part.Type, false) || grown
		}
	}
	return grown
}

// mark marks what of a data type's own stands in a type at a fixed place, and says whether some of it was not marked yet.
func (f fixtures) mark(own fixture, t api.Type, fixed bool) bool {
	if t.Kind == api.TyParam {
		return fixed && newly(own.types, t.N)
	}
	grown := false
	for n, life := range t.Lives {
		if life > 0 && (fixed || f.fixesLife(t.Kind, t.N, n)) {
			grown = newly(own.lives, life-1) || grown
		}
	}
	for n, arg := range t.Args {
		grown = f.mark(own, arg, fixed || f.fixesArg(t.Kind, t.N, n)) || grown
	}
	return grown
}

// newly sets a mark, and says whether it was not set.
func newly(marks []bool, n int) bool {
	was := marks[n]
	marks[n] = true
	return !was
}

// fixesLife says whether a lifetime of a type, told by its kind and number, is fixed there.
func (f fixtures) fixesLife(kind, number, n int) bool {
	return kind == api.TyData && f[number].lives[n]
}

// fixesArg says whether what stands in an Arg of a type is fixed there: it may be changed by more than one who holds it, or is taken as well as given.
func (f fixtures) fixesArg(kind, number, n int) bool {
	switch kind {
	case api.TyMut, api.TyFn:
		return true
	case api.TyData:
		return f[number].types[n]
	case api.TyLib:
		switch number {
		case api.LyCell, api.LyRefCell, api.LyMutex, api.LySender, api.LyReceiver, api.LySliceMut, api.LyRefMut, api.LyLock:
			return true
		}
	}
	return false
}
