package emit

import (
	"fmt"
	"slices"
	"strings"
	"testing"

	"holdfast/api"
	"holdfast/machine"
	"holdfast/run"
)

// orders goes through all orders in which the threads of a program can meet, holds the compiled runs against the source's, and answers what they come to, and how many there are.
func orders(t *testing.T, text string, arg, threads int) (string, int) {
	t.Helper()
	p, code := compiled(t, text)
	all, tried, ends, todo := map[string]int{}, map[string]int{}, []string{}, [][]int{nil}
	for len(todo) > 0 {
		o := seen{}.hold(t, text, p, code, arg, todo[0])
		todo = todo[1:]
		if all[fmt.Sprint(o.Order)]++; all[fmt.Sprint(o.Order)] > 1 {
			continue
		}
		if end := tell(o); !slices.Contains(ends, end) {
			ends = append(ends, end)
		}
		for k, n := range o.Order {
			for other := range threads {
				picks := append(slices.Clone(o.Order[:k]), other)
				if tried[fmt.Sprint(picks)]++; other != n && tried[fmt.Sprint(picks)] == 1 {
					todo = append(todo, picks)
				}
			}
		}
	}
	slices.Sort(ends)
	return strings.Join(ends, "; "), len(all)
}

// P39: each kind of meeting, in all orders.
func TestOrders(t *testing.T) {
	for _, row := range []struct {
		body    string
		threads int
		orders  int // at least
		ends    string
	}{
		// out, the first step, and leaving.
		{"let h = spawn[n] -> int { out(1); out(2); 1 }; out(3); n", 2, 12, "Done 5 [1 2 3]; Done 5 [1 3 2]; Done 5 [3 1 2]"},
		// A handle that is dropped ahead of the thread's end, or behind it, with what the thread gave, or nothing.
		{"{ let h = spawn[] -> D { out(1); d(2) }; } out(3); n", 2, 8, "Done 5 [1 2 3]; Done 5 [1 3 2]; Done 5 [3 1 2]"},
		{"{ let h = spawn[] -> D { let x = d(1); panic }; } out(3); n", 2, 5, "Done 5 [1 3]; Done 5 [3 1]"},
		// join.
		{"let h = spawn[n] -> int { out(n); n }; let j = spawn[n] -> int { out(n + 1); panic }; let k = or(join(h), 7); out(k); or(join(j), 8)", 3, 20, "Done 8 [5 5 6]; Done 8 [5 6 5]; Done 8 [6 5 5]"},
		// arc_clone, and the drop of an Arc: who is last drops what it holds.
		{"let a = arc(d(1)); let b = arc_clone(&a); let h = spawn[b] -> int { out(2); 3 }; eat(a); or(join(h), 0)", 2, 5, "Done 3 [2 1]"},
		{"let a = arc((d(1), cell(n))); let b = arc(d(2)); let c = arc_clone(&b); let h = spawn[c] -> int { let e = arc_clone(&c); 3 }; eat(b); out(8); n", 2, 20, "Done 5 [2 8 1]; Done 5 [8 1 2]; Done 5 [8 2 1]"},
		// lock, and the drop of a Lock.
		{"let m = arc(mutex(n)); let k = arc_clone(&m); let h = spawn[k] -> int { let mut g = lock(arc_get(&k)); let r = lock_get(&mut g); *r = *r * 2; *r }; { let mut g = lock(arc_get(&m)); let r = lock_get(&mut g); *r = *r + 1; } or(join(h), 0)", 2, 9, "Done 10; Done 12"},
		{"let m = arc(mutex(0)); let k = arc(mutex(0)); let a = arc_clone(&m); let b = arc_clone(&k); let h = spawn[a, b] -> int { let g = lock(arc_get(&b)); let h = lock(arc_get(&a)); 1 }; let g = lock(arc_get(&m)); let i = lock(arc_get(&k)); n", 2, 30, "Done 5; Stuck"},
		{"let m = arc(mutex(d(1))); let k = arc_clone(&m); let h = spawn[k] -> int { let g = lock(arc_get(&k)); panic }; { let mut g = lock(arc_get(&m)); *lock_get(&mut g) = d(2); out(3); } or(join(h), 4)", 2, 9, "Done 4 [1 3 2]"},
		// send, recv, sender_clone, and the drops of a Sender and of a Receiver.
		{"let c = chan::<int>(); let tx = sender_clone(&c.0); let h = spawn[tx] -> int { send(&tx, 1); panic }; send(&c.0, 2); let a = or(recv(&c.1), 9); let b = or(recv(&c.1), 9); a * 10 + b", 2, 20, "Done 12; Done 21"},
		{"let c = chan::<D>(); let rx = c.1; let tx = c.0; let h = spawn[rx] -> int { let a = recv(&rx); 1 }; send(&tx, d(1)); let s = send(&tx, d(2)); out(3); 0", 2, 15, "Done [1 2 3]; Done [1 3 2]; Done [3 1 2]"},
		{"let c = chan::<D>(); let tx = c.0; let h = spawn[tx] -> int { send(&tx, d(1)); send(&tx, d(2)); 1 }; let mut k = 0; loop { match recv(&c.1) { Option::Some(x) => { k = k + x.v; }, Option::None => break } } k", 2, 10, "Done 3 [1 2]"},
		{"let c = chan::<D>(); let tx = sender_clone(&c.0); send(&c.0, d(1)); let h = spawn[tx] -> int { send(&tx, d(2)); 1 }; { let gone = c.1; } out(3); 4", 2, 10, "Done 4 [1 2 3]; Done 4 [1 3 2]; Done 4 [2 1 3]"},
		// ISpawn within a thread.
		{"let h = spawn[n] -> int { let j = spawn[n] -> int { out(1); n }; out(2); or(join(j), 0) + 1 }; out(3); or(join(h), 0)", 3, 20, "Done 6 [1 2 3]; Done 6 [1 3 2]; Done 6 [2 1 3]; Done 6 [2 3 1]; Done 6 [3 1 2]; Done 6 [3 2 1]"},
		// A panic within a panic, while the others go on.
		{"let h = spawn[] -> int { let b = p(6); panic }; out(1); n", 2, 4, "Aborted 5 [1 6]; Aborted 5 [6 1]; Aborted [1 6]; Aborted [6 1]; Aborted [6]"},
		// What a thread gave and nobody asks for is dropped by it, and may panic.
		{"{ let h = spawn[] -> (D, P, D) { (d(1), p(9), d(2)) }; } out(3); n", 2, 6, "Done 5 [1 3 9 2]; Done 5 [1 9 2 3]; Done 5 [1 9 3 2]; Done 5 [3 1 9 2]; Failed [1 9 2]"},
		{"{ let h = spawn[] -> (P, P) { (p(8), p(9)) }; } out(3); n", 2, 6, "Aborted 5 [3 8 9]; Aborted 5 [8 3 9]; Aborted 5 [8 9 3]; Aborted [3 8 9]; Aborted [8 3 9]; Aborted [8 9 3]; Aborted [8 9]"},
		{"let a = arc(d(1)); let b = arc_clone(&a); { let h = spawn[b] -> (Arc<D>, P) { (b, p(7)) }; } eat(a); out(3); n", 2, 15, "Done 5 [1 3 7]; Done 5 [1 7 3]; Done 5 [3 1 7]; Done 5 [7 1 3]; Failed [7 1]"},
	} {
		text := whole(row.body)
		ends, many := orders(t, text, 5, row.threads)
		if ends != row.ends || many < row.orders {
			t.Errorf("%s: %s, by %d orders", row.body, ends, many)
		}
	}
}

// P39: each way in which a run ends: How, Value, Outs, Order, and whether something is left.
func TestEnds(t *testing.T) {
	for _, row := range []struct {
		body  string
		picks []int
		want  string
	}{
		{"n", nil, "Done 5 by [0]"},
		{"out(1); n", nil, "Done 5 [1] by [0 0]"},
		{"panic", nil, "Failed by [0]"},
		{"let h = spawn[] -> int { 1 }; or(join(h), 0)", nil, "Done 1 by [0 1 1 0 0]"},
		{"let h = spawn[] -> int { out(1); 1 }; out(2); n", []int{1, 1, 1, 0}, "Done 5 [1 2] by [0 1 1 0 0 0 1]"},
		{"let h = spawn[] -> int { out(1); 1 }; out(2); n", nil, "Done 5 [2 1] by [0 0 0 0 1 1 1]"},
		{"let h = spawn[] -> int { out(1); 1 }; panic", []int{0, 0, 1}, "Failed [1] by [0 0 1 0 1 1]"},
		{"let m = mutex(1); let g = lock(&m); out(2); let h = lock(&m); 3", nil, "Stuck [2] by [0 0]"},
		{"let c = chan::<int>(); let s = sender_clone(&c.0); let r = c.1; let h = spawn[r] -> int { or(recv(&r), 1) }; out(2); n", nil, "Done 5 [2] by [0 0 0 0 0 0 0 1 1 1 1]"},
		{"let c = chan::<int>(); let s = c.0; let r = c.1; let h = spawn[r] -> int { recv(&r); 1 }; join(h); 2", nil, "Stuck by [0 1]"},
		{"let m = arc(mutex(1)); let k = arc_clone(&m); let g = lock(arc_get(&m)); let h = spawn[k] -> int { let g = lock(arc_get(&k)); 1 }; join(h); 7", nil, "Stuck by [0 0 0 1]"},
		{"spawn[] -> int { let m = mutex(1); let g = lock(&m); let h = lock(&m); 1 }; 7", nil, "Stuck 7 by [0 0 0 1 1]"},
		{"spawn[] -> int { let m = mutex(1); let g = lock(&m); let h = lock(&m); 1 }; panic", nil, "Stuck by [0 0 0 1 1]"},
		{"let a = p(6); panic", nil, "Aborted [6] by [0 0]"},
		{"let h = spawn[] -> int { let a = p(6); panic }; 4", nil, "Aborted 4 [6] by [0 0 0 1 1 1]"},
		{"let h = spawn[] -> int { let a = p(6); panic }; 4", []int{1, 1, 1, 1}, "Aborted [6] by [0 1 1 1]"},
		{"let mut i = 0; while i < 11 { spawn[i] -> int { i }; i = i + 1; } i", nil, "Done 11 by [0 0 0 0 0 0 0 0 0 0 0 0 0 0 0 0 0 0 0 0 0 0 0 1 1 2 2 3 3 4 4 5 5 6 6 7 7 8 8 9 9 10 10 11 11]"},
		{"let mut i = 0; while i < 12 { spawn[i] -> int { i }; out(i); i = i + 1; } i", nil, "Full [0 1 2 3 4 5 6 7 8 9 10] by [0 0 0 0 0 0 0 0 0 0 0 0 0 0 0 0 0 0 0 0 0 0 0 0 0 0 0 0 0 0 0 0 0 0]"},
		{"fn more(k: int) -> int { spawn[k] -> int { out(k); more(k + 1) }; k } fn main(n: int) -> int { more(1) }", []int{0, 0, 0, 0}, "Full 1 [1 2 3 4 5 6 7 8 9 10 11] by [0 0 0 1 1 1 1 1 2 2 2 2 2 3 3 3 3 3 4 4 4 4 4 5 5 5 5 5 6 6 6 6 6 7 7 7 7 7 8 8 8 8 8 9 9 9 9 9 10 10 10 10 10 11 11 11]"},
	} {
		text := whole(row.body)
		p, code := compiled(t, text)
		o := machine.Run(code, 5, api.MaxMachine, row.picks)
		if got := tell(o) + fmt.Sprint(" by ", o.Order); got != row.want {
			t.Errorf("%s: %s, not %s", row.body, got, row.want)
		}
		seen{}.hold(t, text, p, code, 5, row.picks)
		seen{}.held(t, text)
	}
}

// P39: drops that meet, begin threads, or are done while a panic goes out of a thread.
func TestDropsThatMeet(t *testing.T) {
	const tells = "struct S { tx: Sender<int>, k: int } impl Drop for S { fn drop(self: &mut S) { send(&(*self).tx, (*self).k); } } fn s(tx: &Sender<int>, k: int) -> S { make S { tx: sender_clone(tx), k: k } } fn all(rx: Receiver<int>) -> int { let mut k = 0; loop { match recv(&rx) { Option::Some(x) => { k = k * 10 + x; }, Option::None => return k } } } "
	rows(t, [][2]string{
		{tells + "fn main(n: int) -> int { let c = chan::<int>(); let tx = c.0; let rx = c.1; { let a = s(&tx, 1); let b = (s(&tx, 2), s(&tx, 3)); eat(b.1); } eat(tx); all(rx) }", "Done 321"},
		{tells + "fn main(n: int) -> int { let c = chan::<int>(); let tx = c.0; let rx = c.1; let a = s(&tx, 1); let b = s(&tx, 2); let h = spawn[a, b] -> S { if *at(&fill(3), 2) > 1 { panic } a }; eat(tx); let k = all(rx); match join(h) { Option::Some(x) => k, Option::None => 0 - k } }", "Done -12"},
		{tells + "fn main(n: int) -> int { let c = chan::<int>(); let tx = c.0; let rx = c.1; let mut v = vec::<S>(); let mut i = 0; while i < n { push(&mut v, s(&tx, i)); i = i + 1; } let h = spawn[v] -> Vec<S> { v }; eat(h); eat(tx); all(rx) }", "Done 1234"},
		{"struct T { k: int } impl Drop for T { fn drop(self: &mut T) { let k = (*self).k; spawn[k] -> D { d(k) }; out(k * 10); } } fn main(n: int) -> int { let a = make T { k: 1 }; let b = boxed(make T { k: 2 }); eat(b); let h = spawn[a] -> T { a }; n }", "Done 5 [20 2 10 1]"},
		{"struct L { m: Arc<Mutex<int>>, k: int } impl Drop for L { fn drop(self: &mut L) { let mut g = lock(arc_get(&(*self).m)); let r = lock_get(&mut g); *r = *r * 10 + (*self).k; if *r > 100 { panic } } } fn l(m: &Arc<Mutex<int>>, k: int) -> L { make L { m: arc_clone(m), k: k } } fn main(n: int) -> int { let m = arc(mutex(0)); let a = l(&m, 1); let b = l(&m, 2); let h = spawn[a, b, n] -> int { let c = a; let e = b; n }; join(h); let mut g = lock(arc_get(&m)); *lock_get(&mut g) }", "Done 21"},
		{"struct L { m: Arc<Mutex<int>>, k: int } impl Drop for L { fn drop(self: &mut L) { let mut g = lock(arc_get(&(*self).m)); let r = lock_get(&mut g); *r = *r * 10 + (*self).k; if *r > 10 { panic } } } fn l(m: &Arc<Mutex<int>>, k: int) -> L { make L { m: arc_clone(m), k: k } } fn main(n: int) -> int { let m = arc(mutex(0)); let a = (l(&m, 1), l(&m, 2), d(7)); let h = spawn[a, n] -> int { let c = a; n }; let j = join(h); out(3); let mut g = lock(arc_get(&m)); *lock_get(&mut g) }", "Done 12 [7 3]"},
		{"let m = mutex(d(1)); { let g = lock(&m); } let o = Option::Some(lock(&m)); match o { Option::Some(g) => { let f = fn once[g]() -> int { 2 }; f() }, Option::None => 3 }", "Done 2 [1]"},
		{"let a = arc(mutex(chan::<D>())); let b = arc_clone(&a); let h = spawn[b] -> int { let mut g = lock(arc_get(&b)); let c = lock_get(&mut g); send(&(*c).0, d(1)); panic }; join(h); let mut g = lock(arc_get(&a)); match recv(&(*lock_get(&mut g)).1) { Option::Some(x) => x.v + 10, Option::None => 0 }", "Done 11 [1]"},
	})
}

// P39: something is left just if the source leaves something: rings.
func TestLeft(t *testing.T) {
	const node = "struct N { link: RefCell<Option<Rc<N>>>, b: Option<Box<int>> } fn node() -> Rc<N> { rc(make N { link: refcell(Option::None), b: Option::None }) } fn tie(a: &Rc<N>, b: &Rc<N>) { *mut_get(&mut borrow_mut(&(*rc_get(a)).link)) = Option::Some(rc_clone(b)); } "
	rows(t, [][2]string{
		{node + "fn main(n: int) -> int { let a = node(); let b = node(); tie(&a, &b); n }", "Done 5"},
		{node + "fn main(n: int) -> int { let a = node(); tie(&a, &a); n }", "Done 5 left"},
		{node + "fn main(n: int) -> int { let a = node(); tie(&a, &a); panic }", "Failed left"},
		{node + "fn main(n: int) -> int { let a = node(); let b = node(); let c = node(); tie(&a, &b); tie(&b, &a); tie(&c, &a); n }", "Done 5 left"},
		{node + "fn main(n: int) -> int { let a = node(); let b = node(); tie(&a, &b); tie(&b, &a); *mut_get(&mut borrow_mut(&(*rc_get(&a)).link)) = Option::None; n }", "Done 5"},
		{"struct M { r: Option<Receiver<M>> } fn main(n: int) -> int { let p = chan::<M>(); let rx = p.1; send(&p.0, make M { r: Option::Some(rx) }); n }", "Done 5 left"},
		{"struct F<'a> { f: RefCell<Option<fn 'a() -> int>> } fn main(n: int) -> int { let a = rc(make F { f: refcell(Option::None) }); let b = rc_clone(&a); let g = fn[b]() -> int { rc_count(&b) }; let k = g(); *mut_get(&mut borrow_mut(&(*rc_get(&a)).f)) = Option::Some(g); k }", "Done 2 left"},
		{"struct A { m: Mutex<Option<Arc<A>>>, b: Box<int> } fn main(n: int) -> int { let a = arc(make A { m: mutex(Option::None), b: boxed(n) }); let b = arc_clone(&a); let h = spawn[b] -> int { let c = arc_clone(&b); *lock_get(&mut lock(&(*arc_get(&b)).m)) = Option::Some(c); 1 }; join(h); n }", "Done 5 left"},
		{"struct B { v: RefCell<Vec<Rc<B>>> } fn main(n: int) -> int { let a = rc(make B { v: refcell(vec::<Rc<B>>()) }); let mut i = 0; while i < n { push(mut_get(&mut borrow_mut(&(*rc_get(&a)).v)), rc_clone(&a)); i = i + 1; } rc_count(&a) }", "Done 6 left"},
		{"struct G { h: Option<Handle<G>> } fn main(n: int) -> int { let c = chan::<Handle<G>>(); let rx = c.1; let h = spawn[rx] -> G { match recv(&rx) { Option::Some(h) => make G { h: Option::Some(h) }, Option::None => make G { h: Option::None } } }; if n > 3 { send(&c.0, h); } else { { let gone = c.0; } match join(h) { Option::Some(g) => { out(1); }, Option::None => { } } } n }", "Done 5 left"},
		{"let v = vec::<Box<int>>(); let b = boxed(v); let r = rc(b); let s = rc_clone(&r); let c = chan::<Rc<int>>(); let f = fn[r]() -> int { 1 }; let h = spawn[] -> Vec<int> { fill(9) }; n", "Done 5"},
		{"let b = boxed(boxed(n)); let r = rc(n); let s = rc_clone(&r); let f = fn[b]() -> int { 1 }; let h = spawn[] -> int { panic }; panic", "Failed"},
	})
}

// P39: one that goes on for ever may be cut off, but never breaks.
func TestEndless(t *testing.T) {
	for _, body := range []string{
		"let mut i = 0; loop { i = i + 1; }",
		"let mut v = vec::<W>(); loop { push(&mut v, w(1)); }",
		"fn f(n: int) -> int { f(n + 1) + 1 } fn main(n: int) -> int { f(n) }",
		"enum L { N, C(Box<L>) } fn main(n: int) -> int { let mut l = L::N; loop { l = L::C(boxed(l)); } }",
	} {
		p, code := compiled(t, whole(body))
		if o := run.Run(p, 5, api.MaxFuel, nil, false); o.How != api.Going {
			t.Errorf("%s: %+v", body, o)
		}
		if o := machine.Run(code, 5, api.MaxMachine, nil); o.How != api.Going && o.How != api.NoRoom && o.How != api.Deep {
			t.Errorf("%s: %+v", body, o)
		}
	}
}
