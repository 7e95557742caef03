package borrow

import (
	"fmt"
	"strings"
	"testing"

	"holdfast/api"
)

// dropped tells of each region of a type, in a program with these items, whether it lasts where a value of the type waits to be dropped: y or n.
func dropped(t *testing.T, items, written string) string {
	t.Helper()
	text := "mod main { " + items + " fn mk<T>() -> T { panic } fn main(n: int) -> int { let v = mk::<" + written + ">(); out(n); n } }"
	p := lowered(t, text)
	holdProgram(t, text, p)
	told := ""
	for _, span := range Lend(p, p.Main).Spans[2] {
		told += string("ny"[min(1, len(span))])
	}
	return told
}

// P25: the drop regions of types.
func TestDropRegions(t *testing.T) {
	const items = "struct G<'a> { r: &'a int } impl<'a> Drop for G<'a> { fn drop(self: &mut G<'a>) { } } struct Dr<T> { x: T } impl<T> Drop for Dr<T> { fn drop(self: &mut Dr<T>) { } } struct H<'a> { r: &'a int } struct Two<'a, 'b> { g: G<'a>, r: &'b int } struct W<T> { x: T } enum En<'a, 'b, 'c> { A(&'a int), B(int, G<'b>), C(Box<Ref<'c, int>>) } struct Ever { g: G<'static> } struct Unused<'a, T> { } " +
		"struct List<'a, T> { v: T, r: &'a int, tail: Option<Box<List<'a, T>>> } struct Turn<'a, 'b> { g: G<'a>, tail: Option<Box<Turn<'b, 'a>>> } struct Half<'a, 'b> { g: G<'a>, tail: Option<Box<Half<'a, 'a>>> } struct Grow<T> { tail: Option<Box<Grow<(T, T)>>> } struct Long<'a, T> { tail: Option<Box<Long<'a, (int, T)>>> } struct Fine<'a, T> { tail: Option<Box<Fine<'a, int>>>, w: &'a T }"
	for _, c := range []struct{ written, want string }{
		{"int", ""}, {"bool", ""}, {"()", ""}, {"&int", "n"}, {"&mut int", "n"}, {"&&mut int", "nn"}, {"&G", "nn"}, {"&mut fn() -> int", "nn"},
		{"fn() -> int", "y"}, {"fn mut(int) -> int", "y"}, {"fn once() -> int", "y"},
		{"Slice<int>", "n"}, {"SliceMut<int>", "n"}, {"Slice<G>", "nn"}, {"SliceMut<G>", "nn"}, {"Ref<int>", "y"}, {"RefMut<int>", "y"}, {"Lock<int>", "y"}, {"Ref<&int>", "yy"}, {"Lock<(int, &&int)>", "yyy"},
		{"Box<&int>", "n"}, {"Box<G>", "y"}, {"Vec<G>", "y"}, {"Rc<G>", "y"}, {"Arc<G>", "y"}, {"Cell<G>", "y"}, {"RefCell<G>", "y"}, {"Mutex<G>", "y"}, {"Sender<G>", "y"}, {"Receiver<G>", "y"}, {"Handle<G>", "y"}, {"Mutex<(&int, Ref<int>)>", "ny"},
		{"(G, &int)", "yn"}, {"(&int, (int, G), &int)", "nyn"}, {"(Slice<int>, Lock<&int>)", "nyy"},
		{"G", "y"}, {"H", "n"}, {"Two", "yn"}, {"Dr<&int>", "y"}, {"Dr<(int, &&int)>", "yy"}, {"W<G>", "y"}, {"W<&G>", "nn"}, {"W<Dr<&int>>", "y"}, {"W<(H, G)>", "ny"}, {"En", "nyy"}, {"Option<En>", "nyy"}, {"Ever", ""}, {"Unused<G>", "nn"},
		{"List<G>", "ny"}, {"List<&int>", "nn"}, {"Turn", "yy"}, {"Half", "yn"}, {"Option<Half>", "yn"}, {"Fine<&int>", "nn"}, {"Fine<G>", "nn"},
		// too big, or too many
		{"Grow<int>", ""}, {"Grow<&int>", "y"}, {"Long<int>", "y"}, {"Long<&int>", "yy"}, {"W<(&int, Grow<&int>)>", "ny"}, {"W<(&int, Long<&int>)>", "yyy"},
	} {
		if got := dropped(t, items, c.written); got != c.want {
			t.Errorf("%s: %q, not %q", c.written, got, c.want)
		}
	}
}

// P25: types that lead to just as many others as may be, and to one more. Two that have other regions are two.
func TestManyDropRegions(t *testing.T) {
	for _, many := range []int{57, 58, 59, 60, 61} {
		want := "n"
		if many+1 > api.MaxAsk {
			want = "y"
		}
		items := "struct L1<'a> { r: &'a int } "
		for k := 2; k <= many; k++ {
			items += fmt.Sprintf("struct L%d<'a> { x: L%d<'a> } ", k, k-1)
		}
		if got := dropped(t, items, fmt.Sprintf("L%d", many)); got != want {
			t.Errorf("%d within one another: %q", many, got)
		}
		var lives, unlike, alike []string
		for k := range many {
			lives = append(lives, fmt.Sprintf("'l%d", k))
			unlike = append(unlike, fmt.Sprintf("r%d: &'l%d int", k, k))
			alike = append(alike, fmt.Sprintf("r%d: &'l0 int", k))
		}
		items = "struct U<" + strings.Join(lives, ", ") + "> { " + strings.Join(unlike, ", ") + " }"
		if got := dropped(t, items, "U"); got != strings.Repeat(want, many) {
			t.Errorf("%d beside one another: %q", many, got)
		}
		items = "struct U<" + strings.Join(lives, ", ") + "> { " + strings.Join(alike, ", ") + " }"
		if got := dropped(t, items, "U"); got != strings.Repeat("n", many) {
			t.Errorf("%d that are alike: %q", many, got)
		}
	}
}

// P26: what a type that is too big refers to lasts till it is dropped.
func TestBigDrops(t *testing.T) {
	tuple := func(parts int) string { return "(" + strings.Repeat("n, ", parts-2) + "n)" }
	bodies(t, api.OK, "let mut t = "+tuple(59)+"; match t { ref y => { t.0 = 2; } } n")
	bodies(t, api.ErrLoan, "let mut t = "+tuple(60)+"; match t { ref y => { t.0 @= 2; } } n")
}

// P25, P26: what is dropped lasts till then, if it may be there.
func TestDropped(t *testing.T) {
	bodies(t, api.ErrLoan,
		"let mut x = n; let g = make G { r: &x }; x @= 2; n",
		"let mut x = n; let g = make G { r: &x }; if n > 1 { eat(g); } x @= 2; n",
		"let mut x = n; let g: G; if n > 1 { g = make G { r: &x }; } x @= 2; n",
		"let mut x = n; let mut g = make G { r: &x }; x @= 2; g = make G { r: &n }; n",
		"let mut x = n; let p = (make G { r: &x }, make G { r: &n }); eat(p.1); x @= 2; n",
		"let mut x = n; let p = (make G { r: &x }, make G { r: &n }); eat(p.0); x @= 2; n",
		"let mut x = n; let p = (make G { r: &x }, make G { r: &n }); eat(p.0); eat(p.1); x @= 2; n", // p itself has not gone
		"let mut x = n; let mut g = make G { r: &x }; g = make G { r: &n }; x @= 2; n",               // one region for both
		"let mut x = n; make G { r: &x }; let g = make G { r: &x }; x @= 2; n",
		"let mut g = make G { r: &n }; { let y = n; let h = make G { r: &y }; } @{ let y = n; g = make G { r: &y }; } n",
	)
	bodies(t, api.OK,
		"let mut x = n; let h = make H { r: &x }; x = 2; n",
		"let mut x = n; let g = make G { r: &x }; eat(g); x = 2; n",
		"let mut x = n; { let g = make G { r: &x }; } x = 2; n",
		"let mut x = n; let g: G; x = 2; n",
		"let mut x = n; let g: G; if n > 1 { g = make G { r: &x }; eat(g); } x = 2; n",
		"let mut x = n; make G { r: &x }; x = 2; n",
		"let mut x = n; let p = (make H { r: &x }, boxed(1)); x = 2; n",
		"let mut x = n; let g = make G { r: &x }; loop { x = 2; }", // it is never dropped
	)
}
