package run

import (
	"slices"
	"testing"

	"holdfast/api"
)

// P29: which thread does the next step, coarse.
func TestPicks(t *testing.T) {
	two := "let h = spawn[n] -> int { out(1); n * 2 }; out(2); match join(h) { Option::Some(x) => x, Option::None => 0 }"
	three := "let h = spawn[] -> int { out(1); 1 }; let g = spawn[] -> int { out(2); 2 }; out(0); join(h); join(g); 0"
	locks := "let a = arc(mutex(n)); let b = arc_clone(&a); let h = spawn[b] -> int { let mut g = lock(arc_get(&b)); *lock_get(&mut g) = 9; 1 }; let mut g = lock(arc_get(&a)); out(*lock_get(&mut g)); eat(g); join(h); 0"
	for _, c := range []struct {
		body, picks, outs, order string
	}{
		{two, "", "2 1", "0 0 1 1 1 0 0"},
		{two, "0 1 1", "1 2", "0 1 1 0 1 0 0"},
		{two, "0 1 1 1 1 1 1", "1 2", "0 1 1 1 0 0 0"},
		// A pick above all numbers is the first one that can.
		{two, "5 5 5 1 0", "2 1", "0 0 1 1 1 0 0"},
		{two, "-1 1 0 1", "2 1", "0 1 0 1 1 0 0"},
		// Picks that are not needed are left.
		{two, "0 0 0 0 0 0 0 0 0 0 0 0 7", "2 1", "0 0 1 1 1 0 0"},
		// spawn, spawn, then the three begin and tell; joins wait.
		{three, "", "0 1 2", "0 0 0 1 1 1 0 2 2 2 0 0"},
		{three, "0 0 2 2 2 1 1 1", "2 1 0", "0 0 2 2 2 1 1 1 0 0 0 0"},
		{three, "0 1 1 0 2 1 2 2", "1 2 0", "0 1 1 0 2 1 2 2 0 0 0 0"},
		{three, "0 0 1 2 0 2 1 1", "0 2 1", "0 0 1 2 0 2 1 1 0 2 0 0"},
		// arc_clone, spawn; lock, out, the Lock's end, join that waits; the thread begins, locks, ends the Lock, drops its Arc, leaves; join, the Arc, main leaves.
		{locks, "", "5", "0 0 0 0 0 1 1 1 1 1 0 0 0"},
		// The thread has the lock: main waits.
		{locks, "0 0 1 1 0 0 0", "9", "0 0 1 1 1 0 0 0 1 1 0 0 0"},
		{locks, "0 0 1 1 1 1 1", "9", "0 0 1 1 1 1 1 0 0 0 0 0 0"},
		{locks, "0 0 1 0 1 0 1 0 1", "5", "0 0 1 0 0 0 1 1 1 1 0 0 0"},
	} {
		o := held(t, c.body, program(t, within(c.body)), 5, 5000, numbers(c.picks), false)
		if !slices.Equal(o.Outs, numbers(c.outs)) || !slices.Equal(o.Order, numbers(c.order)) || o.How != api.Done {
			t.Errorf("%s: picks %s: %+v, not %s, %s", c.body, c.picks, o, c.outs, c.order)
		}
	}
}

// P29: fine turns: picks choose at each step.
func TestFine(t *testing.T) {
	body := "let h = spawn[n] -> int { let x = n; 1 }; let y = 1; out(2); let z = 2; join(h); 0"
	p := program(t, within(body))
	for _, c := range []struct {
		fuel         int
		picks, order string
		outs         int
	}{
		// use, spawn, end, use, out
		{5, "", "0 0", 1},
		{5, "1 1 1 1 1", "0 1", 0},
		// The thread begins at once: then its use, ..
		{5, "0 0 1 1 1", "0 1", 0},
		{6, "0 0 1 0 0 0", "0 1 0", 1},
		{6, "0 0 7 1 0 0", "0 1 0", 1},
		{6, "0 0 7 1 1 0", "0 1", 0},
	} {
		o := held(t, body, p, 5, c.fuel, numbers(c.picks), true)
		if o.How != api.Going || o.Steps != c.fuel || !slices.Equal(o.Order, numbers(c.order)) || len(o.Outs) != c.outs {
			t.Errorf("%+v: %+v", c, o)
		}
	}
	// With turns of any kind the same comes out.
	for n := range 200 {
		var picks []int
		for k := range 60 {
			picks = append(picks, (n>>(k%8))&1)
		}
		f := held(t, body, p, 5, 1000, picks, true)
		g := held(t, body, p, 5, 1000, f.Order, false)
		if !same(f, g) || f.How != api.Done {
			t.Fatalf("%v: %+v, %+v", picks, f, g)
		}
	}
}

// P29: with one thread picks say nothing, nor does fine.
func TestOneThread(t *testing.T) {
	for _, body := range []string{
		"let a = arc(mutex(n)); let b = arc_clone(&a); let c = chan::<int>(); send(&c.0, 3); recv(&c.1); eat(lock(arc_get(&b))); out(1); 7",
		"let a = p(6); out(2); panic",
		"let m = mutex(n); let g = lock(&m); let h = lock(&m); 0",
		"let b = boxed(n); eat(b); *b",
		"let mut k = 0; while k < 100 { out(k); k = k + 1; } k",
	} {
		p := program(t, within(body))
		want := held(t, body, p, 5, 1000, nil, false)
		for _, picks := range [][]int{nil, {1, 2, 3, 4, 5}, {-1, -5, 1 << 62, -1 << 63, 0, 0, 3}} {
			for _, fine := range []bool{false, true} {
				if got := held(t, body, p, 5, 1000, picks, fine); !same(got, want) {
					t.Errorf("%s: %v %v: %+v, not %+v", body, picks, fine, got, want)
				}
			}
		}
	}
}

// P29: what is a meeting, and what is none: the Order of runs with one thread.
func TestMeetings(t *testing.T) {
	for _, c := range []struct {
		body string
		met  int
	}{
		// Main's leaving alone.
		{"1", 1},
		{"let a = rc(n); let b = rc_clone(&a); rc_count(&b)", 1},
		{"let c = refcell(n); let g = borrow(&c); let b = boxed(1); let v = fill(2); 1", 1},
		{"let f = fn[n]() -> int { n }; f()", 1},
		{"let m = mutex(n); 1", 1},
		{"let a = d(1); let b = (d(2), d(3)); 0", 4},
		{"out(1); out(2); 0", 3},
		// The Arc's end; another one, and its end.
		{"let a = arc(n); *arc_get(&a)", 2},
		{"let a = arc(n); let b = arc_clone(&a); 1", 4},
		// The lock, its end.
		{"let m = mutex(n); let mut g = lock(&m); *lock_get(&mut g)", 3},
		// The Sender's end, the Receiver's end.
		{"let c = chan::<int>(); 1", 3},
		{"let c = chan::<int>(); send(&c.0, 1); recv(&c.1); 1", 5},
		{"let c = chan::<int>(); let s = sender_clone(&c.0); 1", 5},
		// The end of a tuple of them is none of its own.
		{"let a = arc((arc(1), arc(2))); 1", 4},
		{"panic", 1},
	} {
		o := ran(t, c.body)
		if len(o.Order) != c.met || slices.Max(o.Order) > 0 {
			t.Errorf("%s: %v, not %d meetings", c.body, o.Order, c.met)
		}
	}
	// spawn; the thread begins, leaves; join; main leaves.
	if o := ran(t, "join(spawn[] -> int { 1 }); 0"); !slices.Equal(o.Order, []int{0, 1, 1, 0, 0}) {
		t.Error(o.Order)
	}
	// A Handle's end.
	if o := ran(t, "{ spawn[] -> int { 1 }; } 0"); !slices.Equal(o.Order, []int{0, 0, 0, 1, 1}) {
		t.Error(o.Order)
	}
	// That all ends.
	if o := ran(t, "let a = p(6); panic"); !slices.Equal(o.Order, []int{0, 0}) || o.How != api.Aborted {
		t.Error(o.Order)
	}
	// A meeting in which the run goes wrong, or ends.
	if o := ran(t, "let m = mutex(n); let r = &m; eat(m); let g = lock(r); 0"); !slices.Equal(o.Order, []int{0}) || o.What != api.WrongHole {
		t.Error(o.Order)
	}
}

// P29: a thread that has ended: what becomes of what it gave.
func TestLeaving(t *testing.T) {
	bodies(t, [][2]string{
		// Somebody has the handle: the thing keeps it.
		{"let h = spawn[] -> D { d(1) }; join(spawn[] -> int { 0 }); out(9); match join(h) { Option::Some(x) => x.v, Option::None => 0 }", "Done 1 [9 1]"},
		// Nobody has it: it is dropped.
		{"{ let h = spawn[] -> (D, D) { (d(1), d(2)) }; } 3", "Done 3 [1 2]"},
		{"{ let h = spawn[] -> D { panic }; } 3", "Done 3"},
		{"let h = spawn[] -> D { let x = d(1); panic }; join(spawn[] -> int { 0 }); out(9); match join(h) { Option::Some(x) => x.v, Option::None => 4 }", "Done 4 [1 9]"},
		// Main may leave first.
		{"{ let h = spawn[] -> int { let mut k = 0; while k < 9 { k = k + 1; } out(k); k }; } 3", "Done 3 [9]"},
		{"let h = spawn[] -> int { out(1); 1 }; panic", "Failed [1]"},
		// A handle in a ring is never asked.
		{"let c = chan::<Handle<D>>(); let s = c.0; let r = c.1; send(&s, spawn[] -> D { d(1) }); out(2); 0", "Done [2 1]"},
	})
	// The thread of a handle that is dropped ahead of its end, and behind it.
	body := "let h = spawn[] -> D { d(1) }; out(9); eat(h); out(8); 0"
	p := program(t, within(body))
	for picks, want := range map[string]string{"": "Done [9 8 1]", "0 1 1": "Done [9 1 8]", "0 1 0 0": "Done [9 8 1]", "0 1 0 1": "Done [9 1 8]"} {
		if got := tell(held(t, body, p, 5, 1000, numbers(picks), false)); got != want {
			t.Errorf("picks %s: %s, not %s", picks, got, want)
		}
	}
}
