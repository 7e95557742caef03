package scope

import (
	"slices"
	"strings"

	"holdfast/api"
)

// sight is what is seen where a type stands, and how many lifetimes there are.
type sight struct {
	lookup
	datas []api.DataDef
	mod   int
	lives []string  // the names of lifetimes, from number 1 on
	types []string  // the names of type parameters
	self  *api.Type // what Self is, if there is one
	count int       // of the lifetimes, also those without names

	unwritten func(at int) int // the lifetime of a place where none is written
	unnamed   bool             // whether none may be written
	within    bool             // whether it is within the types of a YFn
}

// declare is the sight of a module with the lifetimes and type parameters of a Gens.
func (b *builder) declare(mod int, gens api.Node) *sight {
	s := &sight{lookup: b.lookup(), datas: b.program.Datas, mod: mod}
	for _, gen := range gens.Kids {
		if gen.Name == "'static" || slices.Contains(s.lives, gen.Name) || slices.Contains(s.types, gen.Name) {
			refuse(api.ErrTwice, gen.At)
		}
		if gen.Kind == api.GLife {
			s.lives = append(s.lives, gen.Name)
		} else {
			s.types = append(s.types, gen.Name)
		}
	}
	s.count = len(s.lives)
	return s
}

// found answers the item that a path says, with nothing behind it. at is where its faults are.
func (s *sight) found(path string, at int) api.Named {
	item, behind, wrong := s.find(s.mod, strings.Split(path, "::"))
	if wrong != api.OK {
		refuse(wrong, at)
	}
	if behind != "" {
		refuse(api.ErrSort, at)
	}
	return item
}

// typeOf makes the type that is written.
func (s *sight) typeOf(n api.Node) api.Type {
	switch n.Kind {
	case api.YInt:
		return api.Type{Kind: api.TyInt}
	case api.YBool:
		return api.Type{Kind: api.TyBool}
	case api.YTuple:
		return api.Type{Kind: api.TyTuple, Args: s.typesOf(n.Kids)}
	case api.YRef:
		return s.refType(n)
	case api.YFn:
		return s.fnType(n)
	}
	return s.pathType(n)
}

func (s *sight) typesOf(nodes []api.Node) []api.Type {
	var types []api.Type
	for _, n := range nodes {
		types = append(types, s.typeOf(n))
	}
	return types
}

func (s *sight) refType(n api.Node) api.Type {
	t := api.Type{Kind: api.TyRef, Lives: []int{s.life(n.Name, n.At)}}
	if n.N == 1 {
		t.Kind = api.TyMut
	}
	t.Args = s.typesOf(n.Kids)
	return t
}

func (s *sight) fnType(n api.Node) api.Type {
	t := api.Type{Kind: api.TyFn, N: n.N, Lives: []int{s.life(n.Name, n.At)}}
	// A YFn within another one has been refused by now: it has a lifetime.
	s.within = true
	t.Args = s.typesOf(n.Kids)
	s.within = false
	return t
}

func (s *sight) pathType(n api.Node) api.Type {
	if param := slices.Index(s.types, n.Name); param >= 0 {
		mustCount(n, n.Kids, 0)
		return api.Type{Kind: api.TyParam, N: param}
	}
	if n.Name == "Self" && s.self != nil {
		mustCount(n, n.Kids, 0)
		return copied(*s.self)
	}
	t, lives, types := s.itemType(n)
	written := slices.IndexFunc(n.Kids, func(kid api.Node) bool { return kid.Kind != api.YLife })
	if written < 0 {
		written = len(n.Kids)
	}
	mustCount(n, n.Kids[written:], types)
	if written > 0 {
		mustCount(n, n.Kids[:written], lives)
	}
	for i := range lives {
		if written > 0 {
			t.Lives = append(t.Lives, s.life(n.Kids[i].Name, n.Kids[i].At))
		} else {
			t.Lives = append(t.Lives, s.life("", n.At))
		}
	}
	t.Args = s.typesOf(n.Kids[written:])
	return t
}

// mustCount refuses a path that has another number of things than it must.
func mustCount(path api.Node, kids []api.Node, count int) {
	if len(kids) != count {
		refuse(api.ErrCount, path.At)
	}
}

// itemType answers the type that a path says, without what stands in it, and how many lifetimes and types have to.
func (s *sight) itemType(n api.Node) (t api.Type, lives, types int) {
	item := s.found(n.Name, n.At)
	switch item.Sort {
	case api.SortData:
		data := s.datas[item.N]
		return api.Type{Kind: api.TyData, N: item.N}, data.Lives, data.Gens
	case api.SortType:
		if item.N >= api.LySlice {
			lives = 1
		}
		return api.Type{Kind: api.TyLib, N: item.N}, lives, 1
	}
	refuse(api.ErrSort, n.At)
	return api.Type{}, 0, 0
}

// life answers the number of the lifetime at a place: of the one that is written, if one is.
func (s *sight) life(name string, at int) int {
	switch {
	case s.within || s.unnamed && name != "":
		refuse(api.ErrLife, at)
	case name == "":
		return s.unwritten(at)
	}
	return s.writtenLife(name, at)
}

func (s *sight) writtenLife(name string, at int) int {
	if name == "'static" {
		return -1
	}
	n := slices.Index(s.lives, name)
	if n < 0 {
		refuse(api.ErrName, at)
	}
	return n + 1
}

// noLife is for places where a lifetime has to be written.
func noLife(at int) int {
	refuse(api.ErrLife, at)
	return 0
}

// newLife is for places where a lifetime that is not written is one of its own.
func (s *sight) newLife(int) int {
	s.count++
	return s.count
}

// oneLife is for places where a lifetime that is not written is one that is told elsewhere; 0: by nothing.
func oneLife(life int) func(at int) int {
	if life == 0 {
		return noLife
	}
	return func(int) int { return life }
}
