package run

import (
	"fmt"
	"slices"
	"strings"
	"testing"

	"holdfast/api"
)

// forever is a thread that never ends by itself: it has the sender of what it waits for.
const forever = "let c = chan::<int>(); let s = c.0; let r = c.1; { spawn[s, r] -> int { recv(&r); 1 }; } "

// P29: how runs end, and the value of main, who may have left by then.
func TestEnds(t *testing.T) {
	bodies(t, [][2]string{
		{"n", "Done 5"},
		{"out(1); n", "Done 5 [1]"},
		{"out(1); panic", "Failed [1]"},
		{"let a = p(6); panic", "Aborted [6]"},
		{"let m = mutex(0); let g = lock(&m); lock(&m); 3", "Stuck"},
		{"let x: int; x", "WrongHole"},
		{"let mut k = 0; loop { k = k + 1; }", "Going"},
		// Main has left.
		{forever + "7", "Stuck 7"},
		{forever + "panic", "Stuck"},
		{"{ spawn[] -> int { let x: int; x }; } 7", "WrongHole 7"},
		{"{ spawn[] -> int { let a = p(6); panic }; } 7", "Aborted 7 [6]"},
		{"{ spawn[] -> int { loop { } 1 }; } 7", "Going 7"},
		{"{ spawn[] -> int { let mut k = 0; loop { spawn[] -> int { 1 }; k = k + 1; } 1 }; } 7", "Full 7"},
		// Main has ended, but not left, or not ended.
		{"let mut k = 0; while k < 20 { spawn[] -> int { 1 }; k = k + 1; } 7", "Full"},
		{"{ spawn[] -> int { 1 / 0 }; } 7", "Done 7"},
	})
	// A thread that is stuck while it drops what it gave: the lock is in a ring.
	text := "mod main { struct K<'a> { g: Lock<'a, int>, o: RefCell<Option<Rc<K<'a>>>> } struct S { m: Arc<Mutex<int>> } impl Drop for S { fn drop(self: &mut S) { out(1); let g = lock(arc_get(&(*self).m)); out(2); } } fn main(n: int) -> int { let a = arc(mutex(0)); let b = arc_clone(&a); let k = rc(make K { g: lock(arc_get(&a)), o: refcell(Option::None) }); *mut_get(&mut borrow_mut(&(*rc_get(&k)).o)) = Option::Some(rc_clone(&k)); { spawn[b] -> S { make S { m: b } }; } 7 } }"
	if got := tell(heldAll(t, text, program(t, text))); got != "Stuck 7 [1]" {
		t.Error(got)
	}
}

// P29: Left and Loose, for Done and Failed only.
func TestLeft(t *testing.T) {
	ring := "let a = rc(make N { v: 1, link: refcell(Option::None) }); { let mut g = borrow_mut(&(*rc_get(&a)).link); *mut_get(&mut g) = Option::Some(rc_clone(&a)); } "
	bodies(t, [][2]string{
		{ring + "0", "Done left 1"},
		{ring + "panic", "Failed left 1"},
		{ring + "let m = mutex(0); let g = lock(&m); lock(&m); 0", "Stuck"},
		{ring + "let x: int; x", "WrongHole"},
		{ring + "loop { }", "Going"},
		// Two that lead to one another, and one that they lead to.
		{"let a = rc(make N { v: 1, link: refcell(Option::None) }); let b = rc(make N { v: 2, link: refcell(Option::Some(rc_clone(&a))) }); *mut_get(&mut borrow_mut(&(*rc_get(&a)).link)) = Option::Some(b); 0", "Done left 2"},
		// One that leads to a ring is none of it, but nobody has it any more.
		{"let a = rc(make N { v: 1, link: refcell(Option::None) }); *mut_get(&mut borrow_mut(&(*rc_get(&a)).link)) = Option::Some(rc_clone(&a)); let b = rc(make N { v: 2, link: refcell(Option::Some(a)) }); 0", "Done left 1"},
	})
	for _, row := range [][3]string{
		{"struct M { b: Box<int>, v: Vec<Box<int>>, f: fn 'static() -> int, o: RefCell<Option<Rc<M>>> }", "let mut v = vec::<Box<int>>(); push(&mut v, boxed(1)); push(&mut v, boxed(2)); let a = rc(make M { b: boxed(n), v: v, f: fn[n]() -> int { n }, o: refcell(Option::None) }); *mut_get(&mut borrow_mut(&(*rc_get(&a)).o)) = Option::Some(rc_clone(&a)); 0", "Done left 6"},
		{"struct M { a: Arc<int>, c: (Sender<int>, Receiver<int>), h: Handle<int>, o: RefCell<Option<Rc<M>>> }", "let a = rc(make M { a: arc(1), c: chan::<int>(), h: spawn[] -> int { 1 }, o: refcell(Option::None) }); *mut_get(&mut borrow_mut(&(*rc_get(&a)).o)) = Option::Some(rc_clone(&a)); 0", "Done left 4"},
		{"struct M { h: Handle<Box<int>>, o: RefCell<Option<Rc<M>>> }", "let a = rc(make M { h: spawn[] -> Box<int> { boxed(1) }, o: refcell(Option::None) }); *mut_get(&mut borrow_mut(&(*rc_get(&a)).o)) = Option::Some(rc_clone(&a)); 0", "Done left 3"},
		// A channel without a sender, one without a receiver.
		{"struct M { r: Receiver<int>, o: RefCell<Option<Rc<M>>> }", "let c = chan::<int>(); eat(c.0); let a = rc(make M { r: c.1, o: refcell(Option::None) }); *mut_get(&mut borrow_mut(&(*rc_get(&a)).o)) = Option::Some(rc_clone(&a)); 0", "Done left 2"},
		{"struct M { s: Sender<int>, o: RefCell<Option<Rc<M>>> }", "let c = chan::<int>(); eat(c.1); let a = rc(make M { s: c.0, o: refcell(Option::None) }); *mut_get(&mut borrow_mut(&(*rc_get(&a)).o)) = Option::Some(rc_clone(&a)); 0", "Done left 2"},
		// A channel in which its own ends wait.
		{"struct M { s: Sender<M>, r: Receiver<M>, b: Box<int> }", "let c = chan::<M>(); let s = sender_clone(&c.0); let m = make M { s: c.0, r: c.1, b: boxed(1) }; send(&s, m); 0", "Done left 2"},
		// What has ended is not left, whatever leads to it; what a place is put over by IUse is lost.
		{"fn lose(n: int) -> int { let mut b: Box<int>; b = boxed(n); *b }", "lose(n)", "Done 5"},
	} {
		text := "mod main { " + items + row[0] + " fn main(n: int) -> int { " + row[1] + " } }"
		if got := tell(heldAll(t, row[1], program(t, text))); got != row[2] {
			t.Errorf("%s: %s: %s, not %s", row[0], row[1], got, row[2])
		}
	}
}

// P29: what no ring leads to is Loose. No text comes to that, so that code is changed: what is ended is ended no more.
func TestLoose(t *testing.T) {
	for body, want := range map[string]string{
		"let b = boxed(n); 0":                                 "Done left 1 loose 1",
		"let b = boxed(boxed(n)); 0":                          "Done left 2 loose 2",
		"let a = rc(boxed(1)); let b = arc(2); 0":             "Done left 3 loose 3",
		"let f = fn[n]() -> int { n }; 0":                     "Done left 1 loose 1",
		"let c = chan::<Box<int>>(); send(&c.0, boxed(1)); 0": "Done left 2 loose 2",
		"let a = rc(make N { v: 1, link: refcell(Option::None) }); *mut_get(&mut borrow_mut(&(*rc_get(&a)).link)) = Option::Some(rc_clone(&a)); let b = boxed(a); 0": "Done left 2 loose 1",
	} {
		p := program(t, within(body))
		code := p.Fns[0].Code
		last := slices.IndexFunc(code, func(i api.Instr) bool { return i.Op == api.IRet })
		// The locals with names end last, ahead of the function's return.
		for n := range code[:last] {
			if code[n].Op == api.IEnd && slices.Contains([]string{"a", "b", "c", "f"}, p.Fns[0].Vars[code[n].N].Name) {
				code[n] = api.Instr{Op: api.IJump, N: n + 1}
			}
		}
		if got := tell(held(t, body, p, 5, 1000, nil, false)); got != want {
			t.Errorf("%s: %s, not %s", body, got, want)
		}
	}
}

// P29: a shorter run is the beginning of a longer one.
func TestShorterRuns(t *testing.T) {
	for _, body := range []string{
		"let a = d(1); let b = p(6); let h = spawn[n] -> int { out(1); n * 2 }; out(2); match join(h) { Option::Some(x) => x, Option::None => 0 }",
		"let mut x = n; let h = spawn[&mut x] -> int { *x = 9; 1 }; out(0); x",
		"let m = mutex(n); out(1); let g = lock(&m); let h = lock(&m); 0",
	} {
		p := program(t, within(body))
		for _, fine := range []bool{false, true} {
			picks := []int{0, 1, 1, 0, 1, 0, 0, 1}
			whole := held(t, body, p, 5, 1000, picks, fine)
			for fuel := range whole.Steps + 3 {
				o := held(t, body, p, 5, fuel, picks, fine)
				ends := fuel >= whole.Steps
				if ends != same(o, whole) || !ends && (o.How != api.Going || o.Steps != fuel || o.Left != 0) {
					t.Errorf("%s: %d steps: %+v", body, fuel, o)
				}
				if !begins(whole.Outs, o.Outs) || !begins(whole.Order, o.Order) {
					t.Errorf("%s: %d steps: %+v is no beginning of %+v", body, fuel, o, whole)
				}
			}
		}
	}
}

// P29: the limits of steps: below 0 is 0, above MaxFuel is MaxFuel.
func TestFuel(t *testing.T) {
	p := program(t, "mod main { fn main(n: int) -> int { n } }")
	for fuel, want := range map[int]int{-1 << 63: 0, -1: 0, 0: 0, 1: 1, 2: 2, 3: 3, 4: 4, 5: 4, 1 << 62: 4} {
		o := held(t, "n", p, 3, fuel, nil, false)
		if o.Steps != want || (o.How == api.Done) != (want == 4) || (o.Value == 3) != (want == 4) {
			t.Errorf("%d: %+v", fuel, o)
		}
	}
	// Just as many steps as there may be, and one more.
	body, found := "let mut k = 0; while k < n { k = k + 1; } ", [2]int{}
	for pad := range 20 {
		text := within(body + strings.Repeat("eat(1); ", pad) + "7")
		p := program(t, text)
		a, b := Run(p, 0, api.MaxFuel, nil, false), Run(p, 1, api.MaxFuel, nil, false)
		each := b.Steps - a.Steps
		for over := range 2 {
			if (api.MaxFuel+over-a.Steps)%each != 0 {
				continue
			}
			arg := (api.MaxFuel + over - a.Steps) / each
			for _, fuel := range []int{api.MaxFuel, api.MaxFuel + 1, 1 << 62} {
				o := Run(p, arg, fuel, nil, false)
				if want := []string{"Done 7", "Going"}[over]; tell(o) != want || o.Steps != api.MaxFuel {
					t.Errorf("%d with %d: %+v, not %s", pad, arg, o, want)
				}
			}
			found[over]++
		}
	}
	if found[0] == 0 || found[1] == 0 {
		t.Error("no such runs:", found)
	}
}

// P29: MaxThreads threads may begin, with main.
func TestMaxThreads(t *testing.T) {
	for _, c := range []struct {
		n    int
		want string
	}{{api.MaxThreads - 2, "Done 45"}, {api.MaxThreads - 1, "Done 55"}, {api.MaxThreads, "Full"}, {40, "Full"}} {
		body := fmt.Sprintf("let mut v = vec::<Handle<int>>(); let mut k = 0; while k < %d { push(&mut v, spawn[k] -> int { k }); k = k + 1; } let mut s = 0; loop { match pop(&mut v) { Option::Some(h) => { match join(h) { Option::Some(x) => { s = s + x; }, Option::None => { } } }, Option::None => break } } s", c.n)
		for _, picks := range [][]int{nil, {11, 10, 9, 8, 7, 6, 5, 4, 3, 2, 1}} {
			o := held(t, body, program(t, within(body)), 5, api.MaxFuel, picks, false)
			if tell(o) != c.want {
				t.Errorf("%d: %s, not %s", c.n, tell(o), c.want)
			}
			if o.How == api.Full && (o.Order[len(o.Order)-1] != 0 || slices.Max(o.Order) >= api.MaxThreads) {
				t.Error(o.Order)
			}
		}
	}
	// Threads that have left count too.
	body := "let mut k = 0; while k < 20 { join(spawn[] -> int { 1 }); k = k + 1; } 1"
	if o := ran(t, body); o.How != api.Full || len(o.Order) != 11*4+1 {
		t.Errorf("%+v", o)
	}
}
