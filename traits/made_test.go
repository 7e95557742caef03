package traits

import (
	"fmt"
	"math/rand"
	"reflect"
	"slices"
	"strings"
	"testing"

	"holdfast/api"
	"holdfast/scope"
)

// given is a program with types and impls of many sorts, some of which overlap.
const given = "mod k { struct S { x: int } copy struct C<T> { x: T } enum L<T> { Nil, Cons(T, Box<L<T> >) } struct G<T> { x: Box<G<Box<T> > > } copy enum O<T, U> { X(T), Y(U, int) } struct W<'a, T> { x: &'a mut T, y: Mutex<T> } struct D { x: Rc<int> } struct P<T> { } struct X<T, U> { x: Vec<X<U, T> >, y: Arc<T>, z: L<U> } " +
	"trait A { } trait B { } trait E { } impl Drop for D { fn drop(self: &mut D) { } } impl<T> Drop for P<T> { fn drop(self: &mut Self) { } } " +
	"impl A for int { } impl<T: A> A for Box<T> { } impl<T: A, U: B> A for (T, U) { } impl<T: Copy> A for &T { } impl<T> A for L<T> { } impl<T: B> A for Option<T> { } impl<U, T: A + E> A for X<T, U> { } " +
	"impl B for bool { } impl<T: Send + Sync> B for Vec<T> { } impl<T: A> B for Cell<T> { } impl<T: E> B for (int, T) { } impl<T: E> B for T { } " +
	"impl<T: B> E for Rc<T> { } impl E for int { } impl<T> E for fn(T) -> int { } impl<T: E> E for Box<T> { } impl<T: B> E for Box<Vec<T> > { } impl<T: Drop2> E for T { } trait Drop2 { } impl<T: E> Drop2 for P<T> { } }" + mainMod

// maker makes up types of a program.
type maker struct {
	*rand.Rand
	datas  []api.DataDef
	params int // how many type parameters there are; one more may come up, which is not there
}

// lives are so many lifetimes, whatever they are.
func (m maker) lives(count int) []int {
	var lives []int
	for range count {
		lives = append(lives, m.Intn(5)-1)
	}
	return lives
}

func (m maker) types(count, depth int) []api.Type {
	var types []api.Type
	for range count {
		types = append(types, m.typ(depth))
	}
	return types
}

// typ is a type in which as many others stand within one another as the depth allows.
func (m maker) typ(depth int) api.Type {
	kind := m.Intn(14)
	if depth == 0 {
		kind = m.Intn(5)
	}
	switch kind {
	case 0, 1:
		return ty(api.TyInt, 0)
	case 2:
		return ty(api.TyBool, 0)
	case 3:
		if m.params == 0 {
			return ty(api.TyTuple, 0)
		}
		return param(m.Intn(m.params + 1 - min(1, m.Intn(9))))
	case 4:
		return ty([]int{api.TyTuple, api.TyNever}[m.Intn(2)], 0)
	case 5, 6:
		return ty(api.TyTuple, 0, m.types(2+m.Intn(2), depth-1)...)
	case 7:
		return api.Type{Kind: api.TyRef + m.Intn(2), Lives: m.lives(1), Args: m.types(1, depth-1)}
	case 8:
		return api.Type{Kind: api.TyFn, N: m.Intn(3), Lives: m.lives(1), Args: m.types(1+m.Intn(2), depth-1)}
	case 9, 10, 11:
		lib := m.Intn(api.StdTypes)
		return api.Type{Kind: api.TyLib, N: lib, Lives: m.lives(lib / api.LySlice), Args: m.types(1, depth-1)}
	}
	data := m.Intn(len(m.datas))
	return api.Type{Kind: api.TyData, N: data, Lives: m.lives(m.datas[data].Lives), Args: m.types(m.datas[data].Gens, depth-1)}
}

// gens say what the type parameters have.
func (m maker) gens() []api.Gen {
	gens := make([]api.Gen, m.params)
	for i := range gens {
		for trait := range own + 4 {
			if trait != api.TrDrop && m.Intn(3) == 0 {
				gens[i].Traits = append(gens[i].Traits, trait)
			}
		}
	}
	return gens
}

// P12, P13: made types have what the chapter says that they have, by what it says; P2: nothing is changed.
func TestMadeTypes(t *testing.T) {
	p, before := program(t, given), program(t, given)
	counts := map[string]int{}
	for seed := range int64(4000) {
		m := maker{rand.New(rand.NewSource(seed)), p.Datas, int(seed % 3)}
		gens, made := m.gens(), m.typ(int(seed/3)%6)
		told := fmt.Sprint(gens, tellType(made))
		for trait := range own + 5 {
			o := oracle{program: p, gens: gens}
			want := o.has(trait, made)
			counts[fmt.Sprint(trait, want)]++
			if got := Has(p, gens, trait, made); got != want {
				t.Errorf("%s, trait %d: %v, not %v", told, trait, got, want)
			}
			holdFound(t, &o, trait, made, want)
		}
		if told != fmt.Sprint(gens, tellType(made)) {
			t.Errorf("%s: changed", told)
		}
	}
	if !reflect.DeepEqual(p, before) {
		t.Error("the program is changed")
	}
	// Without these there would be nothing to see.
	for trait := range own + 4 {
		for _, want := range []bool{true, false} {
			if counts[fmt.Sprint(trait, want)] < 40 {
				t.Error(trait, want, counts)
			}
		}
	}
}

// holdFound holds what Find answers against what has been said.
func holdFound(t *testing.T, o *oracle, trait int, made api.Type, has bool) {
	t.Helper()
	impl, with, ok := Find(o.program, o.gens, trait, made)
	wantImpl, wantWith := -1, []api.Type(nil)
	wantOK := has && trait >= api.TrDrop
	if byGens := made.Kind == api.TyParam && made.N < len(o.gens) && slices.Contains(o.gens[made.N].Traits, trait); wantOK && !byGens {
		wantImpl, wantWith = o.impl(trait, made)
	}
	if impl != wantImpl || ok != wantOK || len(with) != len(wantWith) {
		t.Fatalf("%s, trait %d: %s, not %s", tellType(made), trait, tellFound(impl, with, ok), tellFound(wantImpl, wantWith, wantOK))
	}
	if impl >= 0 && !scope.Same(scope.Subst(o.program.Impls[impl].Self, with), made) {
		t.Errorf("%s, trait %d: %s", tellType(made), trait, tellFound(impl, with, ok))
	}
}

// selfType writes a type of few sorts, in which each of the names stands at most once.
func selfType(r *rand.Rand, depth int, names []string) (string, []string) {
	if len(names) > 0 && r.Intn(4) == 0 {
		return names[0], names[1:]
	}
	if depth == 0 {
		return []string{"int", "bool"}[r.Intn(2)], names
	}
	switch r.Intn(4) {
	case 0:
		inner, rest := selfType(r, depth-1, names)
		return "Box<" + inner + ">", rest
	case 1:
		inner, rest := selfType(r, depth-1, names)
		return "&" + inner, rest
	}
	first, rest := selfType(r, depth-1, names)
	second, rest := selfType(r, depth-1, rest)
	return "(" + first + ", " + second + ")", rest
}

// madeImpls are impls of two traits.
func madeImpls(r *rand.Rand, count int) string {
	names := []string{"T", "U"}
	text := "mod m { trait A { } trait B { } "
	for range count {
		self, rest := selfType(r, r.Intn(4), names)
		gens := ""
		if used := names[:len(names)-len(rest)]; len(used) > 0 {
			gens = "<" + strings.Join(used, ", ") + ">"
		}
		text += "impl" + gens + []string{" A", " B"}[r.Intn(2)] + " for " + self + " { } "
	}
	return text + "}" + mainMod
}

// merged is a type without type parameters that two become, if they do: what stands deeper is taken.
func merged(a, b api.Type) api.Type {
	if a.Kind == api.TyParam {
		a, b = b, a
	}
	if a.Kind == api.TyParam {
		return tInt
	}
	out := ty(a.Kind, a.N)
	for i := range a.Args {
		other := param(0)
		if b.Kind == a.Kind && len(b.Args) == len(a.Args) {
			other = b.Args[i]
		}
		out.Args = append(out.Args, merged(a.Args[i], other))
	}
	return out
}

// becomes says whether a type becomes another one by the oracle's way.
func becomes(impl api.ImplDef, t api.Type) bool {
	return becoming(impl.Self, t, len(impl.Gens), nil) != nil
}

// P14: two impls overlap if there is a type of both; the first one that overlaps an earlier one of its trait is the fault.
func TestMadeImpls(t *testing.T) {
	faults := 0
	for seed := range int64(3000) {
		r := rand.New(rand.NewSource(seed))
		text := madeImpls(r, 2+r.Intn(5))
		p := program(t, text)
		want := api.Fault{}
		for i, impl := range p.Impls {
			for _, earlier := range p.Impls[:i] {
				both := merged(impl.Self, earlier.Self)
				overlap := becomes(impl, both) && becomes(earlier, both)
				if Overlap(impl.Self, earlier.Self) != overlap || Overlap(earlier.Self, impl.Self) != overlap {
					t.Errorf("%s, %s: not %v", tellType(impl.Self), tellType(earlier.Self), overlap)
				}
				if overlap && impl.Trait == earlier.Trait && want.Kind == api.OK {
					want = api.Fault{Kind: api.ErrOverlap, At: impl.At}
				}
			}
		}
		if got := Coherent(p); got != want {
			t.Errorf("%q: %v, not %v", text, got, want)
		}
		if want.Kind != api.OK {
			faults++
			continue
		}
		holdOneImpl(t, p, maker{Rand: r, datas: p.Datas})
	}
	if faults < 300 || faults > 2700 {
		t.Error(faults)
	}
}

// holdOneImpl looks whether types that impls become, with types without type parameters, are of no other impl of the trait.
func holdOneImpl(t *testing.T, p api.Program, m maker) {
	t.Helper()
	for i, impl := range p.Impls {
		made := scope.Subst(impl.Self, m.types(len(impl.Gens), 2))
		for j, other := range p.Impls {
			if becomes(other, made) != (i == j) && impl.Trait == other.Trait {
				t.Errorf("%s is of impl %d, and of impl %d: %v", tellType(made), i, j, i != j)
			}
		}
	}
}
