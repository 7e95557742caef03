package traits

import (
	"fmt"
	"strings"
	"testing"

	"holdfast/api"
)

// P12: Copy.
func TestCopy(t *testing.T) {
	const items = "struct S { x: int } copy struct C<T> { x: T } copy enum E<T, U> { X(T), Y } copy struct P<T> { } struct Z { } "
	good := ask(t, items, "<T: Copy, U: Send + Copy>",
		"int", "bool", "()", "(int, bool)", "(int, (bool, ()), int)", "&int", "&S", "& &mut S", "&Rc<int>", "(&S, &'static int)",
		"C<int>", "C<C<&S> >", "E<int, bool>", "P<int>", "P<&S>", "Option<int>", "Option<Option<& &mut int> >", "Slice<int>", "Slice<S>", "Slice<Rc<S> >", "C<Slice<S> >",
		"T", "U", "C<T>", "(T, U)", "Option<U>", "&Z")
	good.hold(t, api.TrCopy, strings.Repeat("y", len(good.types)))
	bad := ask(t, items, "<T, U: Send + Sync>",
		"S", "Z", "&mut int", "fn(int) -> int", "fn mut() -> int", "fn once() -> ()", "(int, S)", "(S, int)", "(int, (bool, &mut int))",
		"C<S>", "C<C<&mut int> >", "E<S, int>", "E<int, S>", "P<S>", "Option<S>", "Option<fn() -> int>",
		"Box<int>", "Vec<int>", "Rc<int>", "Arc<int>", "Cell<int>", "RefCell<int>", "Mutex<int>", "Sender<int>", "Receiver<int>", "Handle<int>", "SliceMut<int>", "Ref<int>", "RefMut<int>", "Lock<int>",
		"T", "U", "C<T>", "(U, int)", "(int, Slice<int>, Option<U>)")
	bad.hold(t, api.TrCopy, strings.Repeat("n", len(bad.types)))
}

// contents are types that are Send and Sync, Send alone, Sync alone, and neither.
var contents = []string{"int", "Cell<int>", "Lock<int>", "Rc<int>"}

// P12: Send and Sync of what has a content.
func TestSendAndSync(t *testing.T) {
	const items = "struct S { x: int, y: (bool, Box<int>) } struct W<T> { x: T } struct V<T> { x: int, y: Vec<T> } enum E<T, U> { X, Y(int, U), Z(T) } copy struct P<T> { } struct A<T> { x: Arc<T> } struct F<T> { x: fn 'static(T) -> T } struct K { x: &'static Cell<int> } "
	for _, c := range []struct{ written, send, sync string }{
		{"_", "yynn", "ynyn"}, {"Box<_>", "yynn", "ynyn"}, {"Vec<_>", "yynn", "ynyn"}, {"Handle<_>", "yynn", "ynyn"}, {"SliceMut<_>", "yynn", "ynyn"},
		{"Arc<_>", "ynnn", "ynnn"}, {"Mutex<_>", "yynn", "yynn"}, {"Sender<_>", "yynn", "yynn"},
		{"Cell<_>", "yynn", "nnnn"}, {"RefCell<_>", "yynn", "nnnn"}, {"Receiver<_>", "yynn", "nnnn"},
		{"Slice<_>", "ynyn", "ynyn"}, {"Lock<_>", "nnnn", "ynyn"}, {"Rc<_>", "nnnn", "nnnn"}, {"Ref<_>", "nnnn", "nnnn"}, {"RefMut<_>", "nnnn", "nnnn"},
		{"&_", "ynyn", "ynyn"}, {"&mut _", "yynn", "ynyn"}, {"&mut &_", "ynyn", "ynyn"}, {"& &mut _", "ynyn", "ynyn"},
		{"(_, int)", "yynn", "ynyn"}, {"(int, bool, _)", "yynn", "ynyn"}, {"(int, (_, ()), _)", "yynn", "ynyn"}, {"fn() -> int", "nnnn", "nnnn"}, {"fn mut() -> int", "nnnn", "nnnn"}, {"fn once() -> int", "nnnn", "nnnn"}, {"&fn() -> int", "nnnn", "nnnn"},
		{"S", "yyyy", "yyyy"}, {"W<_>", "yynn", "ynyn"}, {"V<_>", "yynn", "ynyn"}, {"E<_, int>", "yynn", "ynyn"}, {"E<int, _>", "yynn", "ynyn"}, {"E<_, _>", "yynn", "ynyn"}, {"Option<_>", "yynn", "ynyn"}, {"P<_>", "yyyy", "yyyy"}, {"A<_>", "ynnn", "ynnn"}, {"W<Mutex<_> >", "yynn", "yynn"}, {"W<W<&_> >", "ynyn", "ynyn"}, {"F<int>", "nnnn", "nnnn"}, {"K", "nnnn", "nnnn"},
		{"Arc<Mutex<_> >", "yynn", "yynn"}, {"Arc<Mutex<Cell<int> > >", "yyyy", "yyyy"}, {"Mutex<Arc<_> >", "ynnn", "ynnn"}, {"&Mutex<_>", "yynn", "yynn"}, {"Mutex<&_>", "ynyn", "ynyn"}, {"Vec<Rc<_> >", "nnnn", "nnnn"},
	} {
		var types []string
		for _, content := range contents {
			types = append(types, strings.ReplaceAll(c.written, "_", content))
		}
		a := ask(t, items, "", types...)
		a.hold(t, api.TrSend, c.send)
		a.hold(t, api.TrSync, c.sync)
	}
}

// P12: the type of what gives nothing is not written, but asked for.
func TestNever(t *testing.T) {
	p := program(t, "mod m { trait A { } trait B { } impl<T> B for T { } impl A for int { } }"+mainMod)
	never := ty(api.TyNever, 0)
	for trait, want := range []bool{true, true, true, false, false, true} {
		if Has(p, nil, trait, never) != want || Has(p, nil, trait, ty(api.TyTuple, 0, tInt, never)) != (want && trait != own) {
			t.Error(trait)
		}
	}
}

// P12: type parameters have what gens says, and beyond it what impls of any type give them.
func TestParams(t *testing.T) {
	const items = "trait A { } trait B { } trait C { } impl<T> B for T { } impl<T: A> C for T { } impl<T: A> A for Box<T> { } "
	a := ask(t, items, "<T, U: A, V: Copy + Send, W: Sync + C>", "T", "U", "V", "W", "Box<T>", "Box<U>", "&T", "&W", "(V, V)", "Box<V>", "Arc<V>", "Cell<V>")
	a.hold(t, api.TrCopy, "nnynnnyyynnn")
	a.hold(t, api.TrSend, "nnynnnnyyyny")
	a.hold(t, api.TrSync, "nnnynnnynnnn")
	a.hold(t, api.TrDrop, "nnnnnnnnnnnn")
	a.hold(t, own, "nynnnynnnnnn")
	a.hold(t, own+1, "yyyyyyyyyyyy")
	a.hold(t, own+2, "nynynynnnnnn")
	// One that is not there has nothing, not even what all types have.
	for _, n := range []int{-1, 4, 1000} {
		for trait := range own + 3 {
			if Has(a.program, a.gens, trait, param(n)) {
				t.Error(n, trait)
			}
		}
		if Has(a.program, a.gens, api.TrSend, boxes(1, param(n))) || !Has(a.program, a.gens, own+1, boxes(1, param(n))) {
			t.Error(n)
		}
	}
	if Has(a.program, nil, own+1, param(0)) || Has(a.program, nil, own, param(1)) || Has(a.program, nil, api.TrCopy, param(2)) {
		t.Error("type parameters without gens")
	}
}

// P12: the program's own traits, by impls.
func TestImpls(t *testing.T) {
	const items = "struct S<'a, T> { x: &'a T } enum E { X } trait A { } trait B { } trait C { } " +
		"impl A for int { } impl<T: A> A for Box<T> { } impl<T: B + Copy, U: A> A for (T, U) { } impl A for S<bool> { } impl<T> A for fn(T) -> int { } impl<T: Sync> A for &mut T { } " +
		"impl B for bool { } impl B for (bool, int) { } impl<T: A> B for Vec<T> { } impl<T: A + B> B for Option<T> { } impl B for int { } impl<T> B for Cell<T> { } impl Drop for E { fn drop(self: &mut E) { } } "
	a := ask(t, items, "",
		"int", "bool", "()", "Box<int>", "Box<Box<int> >", "Box<bool>", "(bool, int)", "(bool, Box<int>)", "(int, bool)", "(bool, int, int)", "(Cell<int>, int)", "(bool, (bool, (int, int)))",
		"S<bool>", "S<'static, bool>", "S<int>", "fn(bool) -> int", "fn(bool) -> bool", "fn mut(bool) -> int", "fn(int, int) -> int", "fn() -> int", "&mut bool", "&mut Cell<int>", "&bool",
		"Vec<int>", "Vec<(bool, int)>", "Vec<bool>", "Option<int>", "Option<bool>", "Option<(bool, int)>", "Cell<Rc<bool> >", "E", "Box<E>")
	a.hold(t, own, "ynnyynyynnnyyynynnnnynnnnnnnnnnn")
	a.hold(t, own+1, "yynnnnynnnnnnnnnnnnnnnnyynynyynn")
	a.hold(t, own+2, strings.Repeat("n", len(a.types)))
	a.hold(t, api.TrDrop, strings.Repeat("n", len(a.types)-2)+"yn")
	for _, trait := range []int{own + 3, 99, -1} {
		a.hold(t, trait, strings.Repeat("n", len(a.types)))
	}
}

// P12: the first impl counts, whether or not what it asks is there.
func TestFirstImpl(t *testing.T) {
	const types = "Box<int>|Box<bool>|Box<Rc<int> >|(int, bool)|(bool, int)|(bool, bool)"
	a := ask(t, "trait A { } impl<T: Send> A for Box<T> { } impl<T> A for Box<T> { } impl<T: A> A for (T, bool) { } impl<T> A for (int, T) { } impl<T> A for (bool, T) { }", "", strings.Split(types, "|")...)
	a.hold(t, own, "yynnyn")
	a = ask(t, "trait A { } impl<T> A for Box<T> { } impl<T: Send> A for Box<T> { } impl<T> A for (int, T) { } impl<T> A for (bool, T) { } impl<T: A> A for (T, bool) { }", "", strings.Split(types, "|")...)
	a.hold(t, own, "yyyyyy")
	// An impl of another trait is of no account, wherever it stands.
	a = ask(t, "trait A { } trait B { } impl<T: Copy> B for T { } impl<T: Send> A for T { } impl<T: Sync> A for T { }", "", "Cell<int>", "Lock<int>", "&Cell<int>")
	a.hold(t, own, "ynn")
	a.hold(t, own+1, "nny")
}

// P12: a question that leads back to itself does no harm.
func TestRings(t *testing.T) {
	const items = "enum L { Nil, Cons(Box<L>) } enum R { Nil, Cons(Rc<int>, Box<R>) } struct A<T> { x: Vec<B<T> > } struct B<T> { x: Vec<A<T> >, y: T } struct Own { x: Box<Own> } struct Loop { x: Arc<Loop>, y: Cell<int> } enum G<T> { X(Box<G<T> >, Option<Box<G<int> > >), Y(T) } "
	a := ask(t, items, "", "L", "R", "A<int>", "B<int>", "A<Cell<int> >", "B<Lock<int> >", "A<Rc<int> >", "Own", "Loop", "G<int>", "G<Cell<int> >", "G<Rc<int> >")
	a.hold(t, api.TrSend, "ynyyynnynyyn")
	a.hold(t, api.TrSync, "ynyynynynynn")
	const impls = "trait A { } trait B { } trait C { } trait D { } impl<T: A> A for T { } impl<T: C> B for T { } impl<T: B> C for T { } impl<T: B + D> D for T { } "
	a = ask(t, impls, "<T>", "int", "Rc<int>", "T", "(T, int)")
	for trait := own; trait < own+4; trait++ {
		a.hold(t, trait, "yyyy")
	}
	// A no on the way round is a no all the same.
	a = ask(t, "trait A { } trait B { } trait C { } impl<T: B> A for T { } impl<T: A + C> B for T { } impl C for int { }", "", "int", "bool")
	a.hold(t, own, "yn")
	a.hold(t, own+1, "yn")
}

// P12: types of more than MaxParts parts have nothing.
func TestTooBig(t *testing.T) {
	p := program(t, "mod m { trait A { } trait B { } impl A for int { } impl<T: A> A for Box<T> { } impl<T> B for T { } struct P<T> { } struct D<T> { x: (T, T) } copy struct C<T> { x: (T, T) } struct W<T> { x: T } }"+mainMod)
	wide := func(count int) api.Type {
		args := make([]api.Type, count-1)
		for i := range args {
			args[i] = tInt
		}
		return ty(api.TyTuple, 0, args...)
	}
	hold := func(trait int, ofType api.Type, want bool) {
		t.Helper()
		if got := Has(p, []api.Gen{{}}, trait, ofType); got != want {
			t.Errorf("trait %d: %v", trait, got)
		}
	}
	for _, parts := range []int{3, 59, 60, 61, 62, 500} {
		small := parts <= api.MaxParts
		for trait := range api.TrDrop {
			hold(trait, wide(parts), small)
			hold(trait, ty(api.TyRef, 0, wide(parts-1)), small)
			hold(trait, ty(api.TyTuple, 0, tInt, wide(parts-2)), small)
		}
		hold(api.TrSend, boxes(parts-1, tInt), small)
		hold(own, boxes(parts-1, tInt), small)
		hold(own+1, boxes(parts-1, tInt), small)
		hold(own+1, wide(parts), small)
		hold(api.TrSync, ty(api.TyData, 1, wide(parts-1)), small)
		hold(own+1, ty(api.TyFn, 0, wide(parts-1)), small)
	}
	// What a question leads to may be too big, though it itself is not.
	for _, parts := range []int{28, 29, 30, 59} {
		hold(api.TrSend, ty(api.TyData, 2, wide(parts)), 2*parts+1 <= api.MaxParts)
		hold(api.TrCopy, ty(api.TyData, 3, wide(parts)), true)
		hold(api.TrSync, ty(api.TyData, 3, wide(parts)), 2*parts+1 <= api.MaxParts)
		hold(api.TrSend, ty(api.TyData, 4, wide(parts)), true)
	}
	// A type that is far too big is not gone through.
	huge := tInt
	for range 64 {
		huge = ty(api.TyTuple, 0, huge, huge)
	}
	endless := ty(api.TyTuple, 0, make([]api.Type, 1)...)
	endless.Args[0] = endless
	for trait := range own + 2 {
		hold(trait, huge, false)
		hold(trait, endless, false)
	}
}

// structs are so many structs, each with another name and with the same parts.
func structs(count int, gens, parts string) (items string, names []string) {
	for i := range count {
		name := fmt.Sprintf("S%c%c", 'a'+i/26, 'a'+i%26)
		items += "struct " + name + gens + " { " + parts + " } "
		names = append(names, name)
	}
	return items, names
}

// P12: a question leads to at most MaxAsk unlike ones, itself among them.
func TestTooMany(t *testing.T) {
	for _, c := range []struct {
		trait  int
		parts  string // of each struct
		top    string // what stands around the struct that has all of them
		beside int    // how many questions there are beside those of the structs
	}{
		{trait: api.TrSend, parts: "", top: "_", beside: 1},
		{trait: api.TrSend, parts: "x: int", top: "_", beside: 2},
		{trait: api.TrSync, parts: "x: int, y: int, z: bool", top: "Box<_>", beside: 4},
		{trait: api.TrSend, parts: "x: &'static int", top: "_", beside: 3},
		{trait: api.TrSend, parts: "x: Box<int>, y: int, z: (Box<int>, int)", top: "_", beside: 4},
		{trait: api.TrSync, parts: "x: Mutex<int>", top: "_", beside: 3},
		{trait: api.TrSync, parts: "x: Arc<int>", top: "_", beside: 4},
		{trait: api.TrSend, parts: "x: Arc<int>", top: "Option<_>", beside: 5},
	} {
		for count := 54; count <= 61; count++ {
			items, names := structs(count, "", c.parts)
			// A tuple of so many would be too big.
			items += "struct All { "
			for _, name := range names {
				items += strings.ToLower(name) + ": " + name + ", "
			}
			a := ask(t, items+"}", "", strings.ReplaceAll(c.top, "_", "All"))
			if got := a.answers(c.trait); got != yesNo(count+c.beside <= api.MaxAsk) {
				t.Errorf("trait %d, %d structs { %s }, %s: %s", c.trait, count, c.parts, c.top, got)
			}
		}
	}
}

// P12: questions that are the same but for lifetimes, or that come twice, are one.
func TestOneQuestion(t *testing.T) {
	var twice, lives []string
	for i := range 100 {
		twice = append(twice, fmt.Sprintf("t%c%c: (int, Box<int>)", 'a'+i/26, 'a'+i%26))
	}
	for i := range 70 {
		lives = append(lives, fmt.Sprintf("'l%c%c", 'a'+i/26, 'a'+i%26))
	}
	parts := ""
	for _, life := range lives {
		parts += life[1:] + ": &" + life + " (bool, Slice<" + life + ", int>), "
	}
	a := ask(t, "struct S { "+strings.Join(twice, ", ")+" } struct L<"+strings.Join(lives, ", ")+"> { "+parts+" }", "", "S", "L")
	a.hold(t, api.TrSend, "yy")
	a.hold(t, api.TrSync, "yy")
}

// P12: questions of types in which the same things stand otherwise are not one.
func TestUnlikeQuestions(t *testing.T) {
	const items = "trait A { } trait B { } impl A for (int, (int, int), int) { } impl A for fn(int, bool) -> int { } impl A for Box<Vec<int> > { } impl<T: A, U: A> B for (T, U) { } "
	const good = "(int, (int, int), int)"
	a := ask(t, items, "", "("+good+", "+good+")", "("+good+", fn(int, bool) -> int)",
		"("+good+", (int, (int, int, int)))", "((int, (int, int, int)), "+good+")", "("+good+", ((int, int), int, int))", "("+good+", (int, (int, int)))", "("+good+", (int, (int, int), bool))",
		"(fn(int, bool) -> int, fn once(int, bool) -> int)", "(fn(int, bool) -> int, (int, bool, int))", "(Box<Vec<int> >, Vec<Box<int> >)", "(Box<Vec<int> >, Box<Box<int> >)", "(Box<Vec<int> >, Box<Vec<bool> >)")
	a.hold(t, own+1, "yy"+strings.Repeat("n", len(a.types)-2))
}

// P12: the same holds for impls: each asks of one more type.
func TestTooManyByImpls(t *testing.T) {
	for count := 1; count <= 80; count++ {
		items := "trait A { } trait A0 { } impl A for int { } impl A0 for int { } "
		for i := 1; i <= count; i++ {
			items += fmt.Sprintf("trait A%d { } impl<T: A%d> A%d for T { } ", i, i-1, i)
		}
		a := ask(t, items, "", "int", "bool")
		a.hold(t, own+1+count, yesNo(count+1 <= api.MaxAsk)+"n")
		if count < api.MaxAsk {
			a.hold(t, own+count, "yn")
		}
	}
	// What a type parameter has by gens is a question too.
	const impls = "trait A { } trait B { } impl<T: A, U: A> B for (T, U) { } impl<T: A> A for Box<T> { } "
	a := ask(t, impls, "<T: A>", "T", "Box<T>", "(T, T)", "(Box<T>, T)")
	a.hold(t, own, "yynn")
	a.hold(t, own+1, "nnyy")
}

// P12: questions that go on for ever come to their end.
func TestGrowing(t *testing.T) {
	const items = "struct G<T> { x: Box<G<Box<T> > > } struct H<T> { x: Vec<H<(T, T)> > } struct K<T, U> { x: Vec<K<U, T> >, y: Vec<K<T, T> >, z: T } trait A { } impl<T> A for G<T> { } "
	a := ask(t, items, "<T: Send>", "G<int>", "H<int>", "H<()>", "K<int, bool>", "K<T, int>", "K<Rc<int>, int>")
	a.hold(t, api.TrSend, "nnnyyn")
	a.hold(t, own, "ynnnnn")
}

// P1, P2: what the chapter does not allow is answered all the same, and what is handed in stays as it is.
func TestOddTypes(t *testing.T) {
	p := program(t, "mod m { trait A { } impl<T> A for Box<T> { } copy struct C<T> { x: T } }"+mainMod)
	odd := []api.Type{ty(api.TyData, -1), ty(api.TyData, 99), ty(api.TyLib, -1), ty(api.TyLib, 99, tInt), ty(-1, 0), ty(99, 0), ty(api.TyFn, 0), boxes(2, ty(99, 0))}
	for _, programs := range []api.Program{p, {}} {
		for _, ofType := range odd {
			for trait := -1; trait < own+2; trait++ {
				got := Has(programs, nil, trait, ofType)
				if want := trait == own && ofType.Kind == api.TyLib && ofType.N == api.LyBox && len(programs.Impls) > 0; got != want {
					t.Error(ofType, trait, got)
				}
				if _, _, ok := Find(programs, nil, trait, ofType); ok != got {
					t.Error(ofType, trait, ok)
				}
			}
		}
	}
	p.Impls[0].Gens = nil
	if Has(p, nil, own, boxes(1, tInt)) {
		t.Error("an impl with a type parameter that is not there")
	}
}
