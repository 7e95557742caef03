package cover

import (
	"slices"

	"holdfast/api"
)

// test is what a pattern asks of the part of a value that stands at a place.
type test struct {
	place int
	of    api.Type
	pat   api.Pat // not PAny
}

// row is what a pattern asks of a value: all of its tests, of places that are unlike. Without tests it takes every value.
type row []test

// spot is a head at a place.
type spot struct {
	place int
	head  head
}

// grid asks what rows leave over, where each place has values.
type grid struct {
	values
	places int // how many places have a number, beside that of the whole value
}

// rowOf is what a pattern asks of a whole value, whose place is 0.
func rowOf(t api.Type, pat api.Pat) row {
	if pat.Kind == api.PAny {
		return nil
	}
	return row{{0, t, pat}}
}

// within answers what rows ask of the values that another row takes.
func (g *grid) within(rows []row, r row) []row {
	for len(r) > 0 {
		all := g.narrow(append(slices.Clip(rows), r), r[0], headOf(r[0].pat))
		rows, r = all[:len(all)-1], all[len(all)-1]
	}
	return rows
}

// narrow answers what rows ask of the values that have a head at a place: rows that ask for another head are gone, for the others the parts get places of their own.
func (g *grid) narrow(rows []row, at test, h head) []row {
	var out []row
	first, most := g.places+1, 0
	for _, r := range rows {
		i := r.testAt(at.place)
		if i < 0 {
			out = append(out, r)
			continue
		}
		pat := r[i].pat
		if headOf(pat) != h {
			continue
		}
		narrowed := slices.Delete(slices.Clone(r), i, i+1)
		for k, kid := range pat.Kids {
			if kid.Kind != api.PAny {
				narrowed = append(narrowed, test{first + k, g.part(at.of, h, k), kid})
			}
		}
		out = append(out, narrowed)
		most = max(most, len(pat.Kids))
	}
	g.places += most
	return out
}

// testAt is where the test of a place stands, or -1.
func (r row) testAt(place int) int {
	return slices.IndexFunc(r, func(t test) bool { return t.place == place })
}

// escapes says whether there is a value that no row takes. Groups of rows that look at none of the same places have nothing to do with one another.
func (g *grid) escapes(rows []row) bool {
	for _, r := range rows {
		if len(r) == 0 {
			return false
		}
	}
	for _, group := range groups(rows) {
		if !g.escapesGroup(group) {
			return false
		}
	}
	return true
}

func (g *grid) escapesGroup(rows []row) bool {
	if place, ok := g.free(rows); ok {
		return g.escapes(without(rows, place))
	}
	at := splitAt(rows)
	for h := range g.heads(at.of) {
		if g.escapes(g.narrow(rows, at, h)) {
			return true
		}
	}
	return false
}

// free answers a place where values have a head that no row asks for. What escapes with another head there, escapes with this one too, so that nothing else need be tried.
func (g *grid) free(rows []row) (int, bool) {
	asked := map[spot]struct{}{}
	for _, r := range rows {
		for _, t := range r {
			asked[spot{t.place, headOf(t.pat)}] = struct{}{}
		}
	}
	for _, r := range rows {
		for _, t := range r {
			for h := range g.heads(t.of) {
				if _, ok := asked[spot{t.place, h}]; !ok {
					return t.place, true
				}
			}
		}
	}
	return 0, false
}

// without leaves out the rows that look at a place.
func without(rows []row, place int) []row {
	var out []row
	for _, r := range rows {
		if r.testAt(place) < 0 {
			out = append(out, r)
		}
	}
	return out
}

// splitAt chooses a place at which a row with few tests looks: it soon takes everything, or is gone.
func splitAt(rows []row) test {
	return slices.MinFunc(rows, func(a, b row) int { return len(a) - len(b) })[0]
}

// groups puts rows together that look at the same places, or that other rows of the group link.
func groups(rows []row) [][]row {
	var out [][]row
	for _, r := range rows {
		joined := []row{r}
		var apart [][]row
		for _, group := range out {
			if slices.ContainsFunc(group, r.linked) {
				joined = append(joined, group...)
			} else {
				apart = append(apart, group)
			}
		}
		out = append(apart, joined)
	}
	return out
}

// linked says whether two rows look at a same place.
func (r row) linked(other row) bool {
	return slices.ContainsFunc(r, func(t test) bool { return other.testAt(t.place) >= 0 })
}
