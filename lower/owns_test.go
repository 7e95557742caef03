package lower

import (
	"fmt"
	"math/rand"
	"strings"
	"testing"

	"holdfast/api"
	"holdfast/scope"
	"holdfast/traits"
)

// owning asks of types, written one by one, whether they own something. T is a type parameter, U one that is Copy.
func owning(t *testing.T, items string, types ...string) []bool {
	t.Helper()
	var params []string
	for i, written := range types {
		params = append(params, fmt.Sprintf("p%d: %s", i, written))
	}
	p := lowered(t, inMain(items+" fn f<T, U: Copy>("+strings.Join(params, ", ")+") { }"))
	var out []bool
	for _, f := range p.Fns {
		if f.Name != "f" {
			continue
		}
		for _, in := range f.Sig.Ins {
			out = append(out, Owns(p, f.Sig.Gens, in))
		}
	}
	return out
}

// P18: each kind of type, alone and within others.
func TestOwns(t *testing.T) {
	const items = "struct D { v: int } impl Drop for D { fn drop(self: &mut D) { } } struct G<A, B> { a: A, b: &'static B } copy enum C<A> { None, One(A), Two(int, A) } struct Z { } enum V { } struct W { x: (int, (bool, D)) } struct Q { x: Box<Q2> } struct Q2 { y: Option<&'static Q> } "
	for _, c := range []struct {
		owns  bool
		types []string
	}{
		{false, []string{"int", "bool", "()", "(int, bool)", "&D", "&mut D", "&T", "&mut T", "&fn() -> int", "Slice<D>", "SliceMut<Box<int>>", "Slice<T>", "U", "(U, int)", "Z", "V", "C<int>", "C<&T>", "C<U>", "Option<U>", "Option<(int, &mut T)>", "G<int, D>", "G<U, T>", "G<Slice<T>, Box<T>>", "S<int>", "C<C<C<int>>>"}},
		{true, []string{"T", "(int, T)", "fn() -> int", "fn mut() -> int", "fn once() -> int", "Box<int>", "Vec<int>", "Rc<int>", "Arc<int>", "Cell<int>", "RefCell<int>", "Mutex<int>", "Sender<int>", "Receiver<int>", "Handle<int>", "Ref<int>", "RefMut<int>", "Lock<int>", "D", "(int, (bool, D))", "W", "E", "C<T>", "C<D>", "Option<Box<U>>", "Option<T>", "G<T, int>", "G<D, int>", "S<W>", "Q", "Option<fn() -> int>", "C<C<C<D>>>"}},
	} {
		for i, got := range owning(t, items, c.types...) {
			if got != c.owns {
				t.Errorf("%s: %v", c.types[i], got)
			}
		}
	}
}

// P18: a type with more than MaxParts parts owns something, also one that another leads to.
func TestOwnsTooBig(t *testing.T) {
	wide := func(parts int) string { return "(" + strings.Repeat("int, ", parts-2) + "int)" }
	got := owning(t, "struct Two<A> { x: (A, A) } struct P { x: "+wide(60)+" } struct R { x: "+wide(61)+" } struct Nest<A> { x: Two<A> }",
		wide(60), wide(61), "&"+wide(60), "Two<"+wide(29)+">", "Two<"+wide(30)+">", "P", "R", "Nest<"+wide(29)+">", "Nest<"+wide(30)+">", "&'static "+wide(61), "Slice<"+wide(60)+">")
	for i, want := range []bool{false, true, true, false, true, false, true, false, true, true, true} {
		if got[i] != want {
			t.Error(i, got[i])
		}
	}
}

// P18: of more than MaxAsk unlike types that one leads to, itself among them, something is owned.
func TestOwnsManyTypes(t *testing.T) {
	items := "struct L0 { x: int } "
	for n := 1; n <= 60; n++ {
		items += fmt.Sprintf("struct L%d { x: L%d, y: (int, L%d) } ", n, n-1, n-1)
	}
	// L0 leads to 2 types, itself among them; each further one to itself and a tuple.
	got := owning(t, items, "L28", "L29", "(L28, L29)", "(L28, int)", "((L28, int), (L28, int))", "L30", "L60")
	for i, want := range []bool{false, false, true, false, false, true, true} {
		if got[i] != want {
			t.Error(i, got[i])
		}
	}
	// A type that grows with each step leads to more and more of them.
	got = owning(t, "struct G<A> { x: Option<&'static G<(A, int)>> } enum H<A> { E, X(I<(A, A)>) } enum I<A> { E, X(A) }", "G<int>", "H<int>", "H<Box<int>>")
	for i, want := range []bool{false, false, true} {
		if got[i] != want {
			t.Error(i, got[i])
		}
	}
}

func parts(t api.Type) int {
	count := 1
	for _, arg := range t.Args {
		count += parts(arg)
	}
	return count
}

// asked is what Owns has to answer, found by going on till nothing new comes up.
func asked(p api.Program, gens []api.Gen, t api.Type) bool {
	types := []api.Type{t}
	for i := 0; i < len(types); i++ {
		next := types[i]
		if parts(next) > api.MaxParts || len(types) > api.MaxAsk {
			return true
		}
		var leads []api.Type
		switch {
		case next.Kind == api.TyFn, next.Kind == api.TyLib && api.StdType(next.N)[0:2] != "Sl":
			return true
		case next.Kind == api.TyParam && !traits.Has(p, gens, api.TrCopy, next):
			return true
		case next.Kind == api.TyTuple:
			leads = next.Args
		case next.Kind == api.TyData:
			for _, impl := range p.Impls {
				if impl.Trait == api.TrDrop && impl.Self.N == next.N {
					return true
				}
			}
			for _, variant := range p.Datas[next.N].Cases {
				for _, part := range variant.Parts {
					leads = append(leads, scope.Subst(part.Type, next.Args))
				}
			}
		}
	each:
		for _, lead := range leads {
			for _, known := range types {
				if scope.Same(known, lead) {
					continue each
				}
			}
			types = append(types, lead)
		}
	}
	return len(types) > api.MaxAsk
}

// P18: made data types and types.
func TestOwnsMadeTypes(t *testing.T) {
	count := map[bool]int{}
	for seed := range int64(300) {
		r := rand.New(rand.NewSource(seed))
		var kind func(depth, datas int, param bool) string
		kind = func(depth, datas int, param bool) string {
			n := r.Intn(12)
			switch {
			case n < 2 && depth > 0:
				return "(" + kind(depth-1, datas, param) + ", " + kind(depth-1, datas, param) + ")"
			case n < 7 && depth > 0 && datas > 0:
				return fmt.Sprintf("D%d<%s, %s>", r.Intn(datas), kind(depth-1, datas, param), kind(depth-1, datas, param))
			case n == 7:
				return "&'static " + kind(0, datas, param)
			case n == 8 && r.Intn(3) == 0:
				return []string{"Box", "Slice", "Rc"}[r.Intn(2)*2] + "<int>"
			case n > 8 && param:
				return []string{"A", "B"}[r.Intn(2)]
			}
			return []string{"int", "bool"}[r.Intn(2)]
		}
		items := ""
		for n := range 5 {
			items += fmt.Sprintf("enum D%d<A, B> { X(%s), Y(int, %s) } ", n, kind(2, n, true), kind(1, n, true))
			if r.Intn(12) == 0 {
				items += fmt.Sprintf("impl<A, B> Drop for D%d<A, B> { fn drop(self: &mut Self) { } } ", n)
			}
		}
		text := inMain(items + "fn f<A, B: Copy>(a: " + kind(3, 5, true) + ", b: " + kind(3, 5, true) + ", c: " + kind(3, 5, false) + ", d: " + kind(2, 5, false) + ", e: D4<int, B>) { }")
		p, ok := made(text)
		if !ok {
			continue
		}
		f := p.Fns[len(p.Fns)-2]
		for i, in := range f.Sig.Ins {
			got, want := Owns(p, f.Sig.Gens, in), asked(p, f.Sig.Gens, in)
			if got != want {
				t.Errorf("%q: %d: %v", text, i, got)
			}
			count[got]++
		}
	}
	// Without these there would be nothing to see.
	if count[true] < 200 || count[false] < 200 {
		t.Error(count)
	}
}
