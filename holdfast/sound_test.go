package holdfast

import (
	"fmt"
	"math/rand"
	"slices"
	"strings"
	"testing"

	"holdfast/api"
	"holdfast/run"
)

// randomPicks let one thread do a few steps, then another one.
func randomPicks(r *rand.Rand) []int {
	var picks []int
	threads, times := 1+r.Intn(5), []int{1, 5, 50}[r.Intn(3)]
	for range r.Intn(200) {
		pick := r.Intn(threads + 1)
		for range 1 + r.Intn(times) {
			picks = append(picks, pick)
		}
	}
	return picks
}

// seen counts what runs have come to, so that a test can say that there was something to see.
type seen map[string]int

// holds looks at what is promised of a run of a program that passes (P31, P32).
func (s seen) holds(t *testing.T, text string, o api.Outcome) {
	t.Helper()
	s[hows[o.How]]++
	if o.Left > 0 {
		s["left"]++
	}
	if o.How == api.Wrong || o.What != api.NotWrong || o.Loose > 0 {
		t.Errorf("%s: passes, but %s: %+v", text, tell(o), o)
	}
}

// sound lets a program that passes run, finely and coarsely: neither goes wrong (P31), nothing loose is left (P32), and the fine run is a coarse one (P33).
func (s seen) sound(t *testing.T, text string, p api.Program, arg, fuel int, picks []int) {
	t.Helper()
	fine := run.Run(p, arg, fuel, picks, true)
	coarse := run.Run(p, arg, api.MaxFuel, fine.Order, false)
	s.holds(t, text, fine)
	s.holds(t, text, coarse)
	s.holds(t, text, run.Run(p, arg, fuel, picks, false))
	if slices.Max(append(fine.Order, 0)) > 0 {
		s["threads"]++
	}
	if fine.How == api.Going || coarse.How == api.Going {
		return
	}
	// Only how many steps there were may be otherwise.
	if fine.Steps = coarse.Steps; !same(fine, coarse) {
		t.Errorf("%s: of %d, picks %v: finely %+v, coarsely %+v", text, arg, picks, fine, coarse)
	}
	s["held"]++
}

// enough says whether each of some things has been seen so many times.
func (s seen) enough(t *testing.T, times int, names ...string) {
	t.Helper()
	for _, name := range names {
		if s[name] < times {
			t.Errorf("%s only %d times: %v", name, s[name], s)
		}
	}
}

// P31, P32, P33: texts that pass, with many numbers, steps and picks.
func TestWrittenAreSound(t *testing.T) {
	s, r := seen{}, rand.New(rand.NewSource(1))
	for _, list := range [][]written{plainTexts, threadTexts} {
		for _, w := range list {
			text := whole(w.text)
			p, _ := Load(text)
			for _, arg := range []int{-1, 0, 1, 2, 3, 4, 5, 9, 12} {
				s.sound(t, text, p, arg, api.MaxFuel, nil)
				for range 4 {
					s.sound(t, text, p, arg, api.MaxFuel, randomPicks(r))
					s.sound(t, text, p, arg, r.Intn(400), randomPicks(r))
				}
			}
		}
	}
	s.enough(t, 10, "Done", "Failed", "Stuck", "Aborted", "Full", "Going", "left", "threads", "held")
}

// P31, P32, P33: texts that pass, made by changing others again and again.
func TestChangedAreSound(t *testing.T) {
	s, r := seen{}, rand.New(rand.NewSource(2))
	var texts []string
	for _, list := range [][]written{plainTexts, threadTexts} {
		for _, w := range list {
			texts = append(texts, whole(w.text))
		}
	}
	for range 3500 {
		text := changed(r, texts[r.Intn(len(texts))], 1+r.Intn(3))
		p, fault := Load(text)
		s[fmt.Sprint("fault ", fault.Kind)]++
		if fault.Kind == api.OK {
			texts = append(texts, text)
			s.sound(t, text, p, r.Intn(10), 3000, randomPicks(r))
			s.sound(t, text, p, r.Intn(10), 3000, randomPicks(r))
		}
	}
	s.enough(t, 5, "Done", "Failed", "Stuck", "Aborted", "Full", "Going", "left", "threads", "held", "fault 0", "fault 25", "fault 29")
}

// P31, P32, P33: texts that pass, made statement by statement.
func TestGrownAreSound(t *testing.T) {
	s, r := seen{}, rand.New(rand.NewSource(3))
	for seed := range int64(20) {
		text := grown(seed, 35)
		p, fault := Load(text)
		if fault.Kind != api.OK {
			t.Errorf("%s: %v", text, fault)
		}
		for arg := range 8 {
			s.sound(t, text, p, arg, 5000, randomPicks(r))
		}
	}
	s.enough(t, 5, "Done", "Failed", "threads", "held")
}

// P31, P32, P33: texts in which something may go out of its block: most are refused, the others are sound.
func TestEscapingAreSound(t *testing.T) {
	s, r := seen{}, rand.New(rand.NewSource(6))
	for seed := range int64(2000) {
		text := escaping(seed)
		p, fault := Load(text)
		s[fmt.Sprint("fault ", fault.Kind)]++
		if fault.Kind == api.OK {
			s.sound(t, text, p, r.Intn(6), 3000, randomPicks(r))
		}
	}
	s.enough(t, 20, "Done", "held", "fault 0", "fault 25", "fault 27", "fault 29")
}

// P31: a run that is cut off anywhere has not gone wrong till then.
func TestCutOff(t *testing.T) {
	s := seen{}
	for _, list := range [][]written{plainTexts[:4], threadTexts[:3]} {
		for _, w := range list {
			p, _ := Load(whole(w.text))
			for fuel := range 250 {
				o := run.Run(p, 5, fuel, []int{1, 0, 2, 1}, fuel%2 == 0)
				s.holds(t, w.text, o)
				if o.Steps > fuel || o.How == api.Going && o.Steps != fuel {
					t.Errorf("%s: %d steps: %+v", w.text, fuel, o)
				}
			}
		}
	}
	s.enough(t, 20, "Going", "Done")
}

// P32: what is left, with rings and without, when all goes well, and by a panic.
func TestLeft(t *testing.T) {
	const node = "struct N { link: RefCell<Option<Rc<N>>>, b: Option<Box<int>> } fn node() -> Rc<N> { rc(make N { link: refcell(Option::None), b: Option::None }) } fn tie(a: &Rc<N>, b: &Rc<N>) { *mut_get(&mut borrow_mut(&(*rc_get(a)).link)) = Option::Some(rc_clone(b)); } "
	for _, row := range [][2]string{
		// Nothing: what has been made is dropped, wherever it has gone.
		{"fn main(n: int) -> int { let b = boxed(boxed(n)); let v = vec::<Box<int>>(); let r = rc(n); let s = rc_clone(&r); let a = arc(n); let p = chan::<int>(); let f = fn[b]() -> int { 1 }; n }", "Done 5"},
		{"fn main(n: int) -> int { let b = boxed(boxed(n)); let r = rc(n); let s = rc_clone(&r); let f = fn[b]() -> int { 1 }; let h = spawn[] -> int { panic }; panic }", "Failed"},
		{"fn f(b: Box<int>, n: int) -> int { 10 / n } fn main(n: int) -> int { f(boxed(1), f(boxed(2), 0)) }", "Failed"},
		{"fn main(n: int) -> int { let p = chan::<Box<int>>(); send(&p.0, boxed(1)); send(&p.0, boxed(2)); let tx = sender_clone(&p.0); { let gone = p.1; } send(&tx, boxed(3)); n }", "Done 5"},
		{"fn main(n: int) -> int { let p = chan::<Box<int>>(); let rx = p.1; send(&p.0, boxed(1)); spawn[rx] -> int { panic }; n }", "Done 5"},
		{"fn main(n: int) -> int { spawn[n] -> Box<int> { boxed(n) }; let h = spawn[n] -> Box<int> { boxed(n) }; n }", "Done 5"},
		{"fn main(n: int) -> int { let m = arc(mutex(vec::<Box<int>>())); let k = arc_clone(&m); let h = spawn[k] -> int { push(lock_get(&mut lock(arc_get(&k))), boxed(1)); panic }; push(lock_get(&mut lock(arc_get(&m))), boxed(2)); n }", "Done 5"},
		{"fn main(n: int) -> int { let mut i = 0; let mut b = boxed(0); while i < n { b = boxed(i); if i == 3 { break; } let c = boxed(i); i = i + 1; } match Option::Some(b) { Option::Some(_) => i, Option::None => 0 } }", "Done 3"},
		// Chains are no rings.
		{node + "fn main(n: int) -> int { let a = node(); let b = node(); let c = node(); tie(&a, &b); tie(&b, &c); n }", "Done 5"},
		{node + "fn main(n: int) -> int { let a = node(); tie(&a, &node()); tie(&a, &node()); panic }", "Failed"},
		// Rings, and what they lead to.
		{node + "fn main(n: int) -> int { let a = node(); tie(&a, &a); n }", "Done 5 left 1"},
		{node + "fn main(n: int) -> int { let a = node(); tie(&a, &a); panic }", "Failed left 1"},
		{node + "fn main(n: int) -> int { let a = node(); let b = node(); let c = node(); tie(&a, &b); tie(&b, &a); tie(&c, &a); n }", "Done 5 left 2"},
		{node + "fn main(n: int) -> int { let a = rc(make N { link: refcell(Option::None), b: Option::Some(boxed(n)) }); tie(&a, &a); n }", "Done 5 left 2"},
		{node + "fn main(n: int) -> int { let a = node(); let b = node(); tie(&a, &b); tie(&b, &a); *mut_get(&mut borrow_mut(&(*rc_get(&a)).link)) = Option::None; n }", "Done 5"},
		// Rings by other things: a channel that has its own receiver, a shared closure that has itself, a thread's own handle.
		{"struct M { r: Option<Receiver<M>> } fn main(n: int) -> int { let p = chan::<M>(); let rx = p.1; send(&p.0, make M { r: Option::Some(rx) }); n }", "Done 5 left 1"},
		{"struct M { s: Option<Sender<M>> } fn main(n: int) -> int { let p = chan::<M>(); let tx = sender_clone(&p.0); send(&p.0, make M { s: Option::Some(tx) }); n }", "Done 5"},
		{"struct F<'a> { f: RefCell<Option<fn 'a() -> int>> } fn main(n: int) -> int { let a = rc(make F { f: refcell(Option::None) }); let b = rc_clone(&a); let g = fn[b]() -> int { rc_count(&b) }; let k = g(); *mut_get(&mut borrow_mut(&(*rc_get(&a)).f)) = Option::Some(g); k }", "Done 2 left 2"},
		{"struct A { m: Mutex<Option<Arc<A>>>, b: Box<int> } fn main(n: int) -> int { let a = arc(make A { m: mutex(Option::None), b: boxed(n) }); let b = arc_clone(&a); let h = spawn[b] -> int { let c = arc_clone(&b); *lock_get(&mut lock(&(*arc_get(&b)).m)) = Option::Some(c); 1 }; join(h); n }", "Done 5 left 2"},
		{"struct B { v: RefCell<Vec<Rc<B>>> } fn main(n: int) -> int { let a = rc(make B { v: refcell(vec::<Rc<B>>()) }); let mut i = 0; while i < n { push(mut_get(&mut borrow_mut(&(*rc_get(&a)).v)), rc_clone(&a)); i = i + 1; } rc_count(&a) }", "Done 6 left 2"},
	} {
		text := whole(row[0])
		p, fault := Load(text)
		if fault.Kind != api.OK {
			t.Errorf("%s: %v %.30q", text, fault, text[fault.At:])
			continue
		}
		for _, picks := range [][]int{nil, {1, 1, 1, 1}, {0, 1, 0, 1, 2}, {2, 1, 0, 2, 1, 0}} {
			for _, fine := range []bool{false, true} {
				if got := tell(run.Run(p, 5, api.MaxFuel, picks, fine)); got != row[1] {
					t.Errorf("%s: %s, not %s", text, got, row[1])
				}
			}
		}
	}
}

// orders are all the orders in which the threads of a program can meet, coarsely, with what comes of each.
func orders(p api.Program, arg, threads int) map[string]api.Outcome {
	all, todo := map[string]api.Outcome{}, [][]int{nil}
	for len(todo) > 0 {
		o := run.Run(p, arg, api.MaxFuel, todo[0], false)
		todo = todo[1:]
		if _, ok := all[fmt.Sprint(o.Order)]; ok {
			continue
		}
		all[fmt.Sprint(o.Order)] = o
		for k, n := range o.Order {
			for other := range threads {
				if other != n {
					todo = append(todo, append(slices.Clone(o.Order[:k]), other))
				}
			}
		}
	}
	return all
}

// P33: whatever turns a fine run takes, there is a coarse run with its order, and it comes to the same.
func TestFineIsCoarse(t *testing.T) {
	for _, row := range []struct {
		items   string
		threads int
		orders  int
		ends    string // all that it may come to
	}{
		{"fn main(n: int) -> int { let h = spawn[n] -> int { let mut i = 0; while i < 3 { i = i + 1; } out(i); 1 }; let k = n * 2; out(k); k }", 2, 8, "Done 10 [10 3]; Done 10 [3 10]"},
		{"fn main(n: int) -> int { let m = arc(mutex(n)); let k = arc_clone(&m); let h = spawn[k] -> int { let mut g = lock(arc_get(&k)); let r = lock_get(&mut g); *r = *r * 2; *r }; { let mut g = lock(arc_get(&m)); let r = lock_get(&mut g); *r = *r + 1; } match join(h) { Option::Some(x) => x, Option::None => 0 } }", 2, 9, "Done 10; Done 12"},
		{"fn main(n: int) -> int { let m = arc(mutex(0)); let k = arc(mutex(0)); let a = arc_clone(&m); let b = arc_clone(&k); let h = spawn[a, b] -> int { let g = lock(arc_get(&b)); let h = lock(arc_get(&a)); 1 }; let g = lock(arc_get(&m)); let i = lock(arc_get(&k)); n }", 2, 30, "Done 5; Stuck"},
		{"fn main(n: int) -> int { let c = chan::<int>(); let tx = sender_clone(&c.0); let h = spawn[tx] -> int { send(&tx, 1); panic }; send(&c.0, 2); let a = recv(&c.1); let b = recv(&c.1); match (a, b) { (Option::Some(x), Option::Some(y)) => x * 10 + y, _ => 0 } }", 2, 20, "Done 12; Done 21"},
		{"struct D { v: int } impl Drop for D { fn drop(self: &mut D) { out((*self).v); } } fn main(n: int) -> int { let d = make D { v: 1 }; let e = make D { v: 2 }; let h = spawn[d] -> int { 10 / 0 }; let j = spawn[e] -> D { e }; 7 }", 3, 50, "Done 7 [1 2]; Done 7 [2 1]"},
		{"struct B { v: int } impl Drop for B { fn drop(self: &mut B) { panic } } fn main(n: int) -> int { let h = spawn[n] -> int { let b = make B { v: 1 }; panic }; out(1); out(2); n }", 2, 6, "Aborted; Aborted 5 [1 2]; Aborted [1 2]; Aborted [1]"},
	} {
		text := whole(row.items)
		p, fault := Load(text)
		if fault.Kind != api.OK {
			t.Errorf("%s: %v %.30q", text, fault, text[fault.At:])
			continue
		}
		all := orders(p, 5, row.threads)
		ends := map[string]int{}
		for _, o := range all {
			ends[tell(o)]++
			seen{}.holds(t, text, o)
		}
		var list []string
		for end := range ends {
			list = append(list, end)
		}
		slices.Sort(list)
		if got := strings.Join(list, "; "); got != row.ends || len(all) < row.orders {
			t.Errorf("%s: %s, by %d orders", text, got, len(all))
		}
		r := rand.New(rand.NewSource(4))
		found := map[string]int{}
		for range 400 {
			o := run.Run(p, 5, api.MaxFuel, randomPicks(r), true)
			like, ok := all[fmt.Sprint(o.Order)]
			if o.Steps = like.Steps; !ok || !same(o, like) {
				t.Errorf("%s: finely %+v, coarsely %+v", text, o, like)
			}
			found[tell(o)]++
		}
		if len(found) != len(ends) {
			t.Errorf("%s: finely only %v", text, found)
		}
	}
}
