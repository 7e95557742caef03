package machine

import (
	"fmt"
	"testing"

	"holdfast/api"
)

// turns is code that is run with picks.
type turns struct {
	code  listing
	picks []int
	want  string
}

func holdTurns(t *testing.T, all []turns) {
	t.Helper()
	for i, s := range all {
		if o := held(t, s.code, 5, 1000, s.picks); tell(o) != s.want {
			t.Errorf("%d: %s, not %s: %v picks %v", i, tell(o), s.want, s.code, s.picks)
		}
	}
}

// P37: MSpawn begins a thread with the next number; it goes on at A, and its slot 0 is slot B.
func TestSpawn(t *testing.T) {
	holdTurns(t, []turns{
		{listing{spawn(2, 0), stop(), tells(0), stop()}, nil, "Done in 4 outs [5] order [1]"},
		// Three threads, each with a word of its own.
		{listing{set(1, 7), set(2, 8), spawn(6, 1), spawn(6, 2), spawn(6, 0), jmp(6), tells(0), stop()}, nil, "Done in 14 outs [5 7 8 5] order [0 1 2 3]"},
		{listing{set(1, 7), set(2, 8), spawn(6, 1), spawn(6, 2), spawn(6, 0), jmp(6), tells(0), stop()}, []int{3, 2, 1, 0}, "Done in 14 outs [5 8 7 5] order [3 2 1 0]"},
		// What begins a thread goes on: it is no meeting, and its number is less.
		{listing{spawn(4, 0), set(1, 1), tells(1), stop(), set(1, 2), tells(1), stop()}, nil, "Done in 7 outs [1 2] order [0 1]"},
		// A thread that another one began.
		{listing{spawn(2, 0), stop(), set(1, 6), spawn(5, 1), tells(0), tells(0), stop()}, nil, "Done in 9 outs [5 5 6] order [1 1 2]"},
		{listing{spawn(2, 0), stop(), set(1, 6), spawn(6, 1), tells(0), stop(), tells(0), stop()}, []int{2}, "Done in 8 outs [6 5] order [2 1]"},
		// A thread is in none of the calls of the one that began it.
		{listing{calls(2, 3, 9), stop(), spawn(4, 0), ret(), ret()}, nil, "Broken in 5"},
	})
}

// P37: MaxThreads threads may be begun, ended ones among them; one more is Full, but slot B is read first.
func TestThreadsUpToTheMost(t *testing.T) {
	begin := func(n int) listing {
		var code listing
		for range n {
			code = code.then(spawn(40, 0))
		}
		return code
	}
	whole := func(code listing, thread ...api.Ins) listing {
		for len(code) < 40 {
			code = code.then(stop())
		}
		return code.then(thread...)
	}
	n := api.MaxThreads - 1
	for _, thread := range []listing{{stop()}, {syncs(), stop()}, {tells(0), stop()}} {
		meetings := 0
		if len(thread) > 1 {
			meetings = n
		}
		o := held(t, whole(begin(n), thread...), 5, 1000, nil)
		if o.How != api.Done || o.Steps != n+1+n*len(thread) || len(o.Order) != meetings {
			t.Errorf("%v: %s", thread, tell(o))
		}
	}
	hold(t, []sample{
		{whole(begin(n+1), stop()), 5, "Full in 12"},
		{whole(begin(n).then(spawn(40, words4M)), stop()), 5, "Deep in 12"},
		{whole(begin(n).then(spawn(40, -1)), stop()), 5, "Broken in 12"},
		{whole(begin(n).then(spawn(-1, 0)), stop()), 5, "Full in 12"},
		// All others have ended.
		{whole(begin(n).then(tells(0), spawn(40, 0)), stop()), 5, "Full in 24 outs [5] order [0]"},
		// Main has ended, with a value, and the last one begins another.
		{whole(begin(n-1).then(gives(0)), spawn(42, 0), stop(), syncs(), stop()), 5, "Full in 14 gives 5"},
	})
}

// P37: the one with the least number whose next step is no meeting goes on; only where all meet is a thread picked.
func TestLeastNumberFirst(t *testing.T) {
	// Each of three threads does a step of its own between two meetings.
	code := listing{
		spawn(2, 0), spawn(2, 0),
		set(1, 1), tells(1), set(1, 2), tells(1), set(1, 3), stop(),
	}
	for _, s := range []struct {
		picks []int
		outs  string
		order string
	}{
		{nil, "[1 2 1 2 1 2]", "[0 0 1 1 2 2]"},
		{[]int{1}, "[1 1 2 2 1 2]", "[1 0 0 1 2 2]"},
		{[]int{2, 1, 0}, "[1 1 1 2 2 2]", "[2 1 0 0 1 2]"},
		{[]int{2, 2, 2}, "[1 2 1 2 1 2]", "[2 2 0 0 1 1]"}, // the third pick is too great, as 2 has ended
		{[]int{3, 3, 3, 3, 3, 3}, "[1 2 1 2 1 2]", "[0 0 1 1 2 2]"},
		{[]int{most, most}, "[1 2 1 2 1 2]", "[0 0 1 1 2 2]"},
		{[]int{-1, 1, least, 2}, "[1 1 2 1 2 2]", "[0 1 0 2 1 2]"},
		{[]int{0, 0, 0, 2, 2}, "[1 2 1 1 2 2]", "[0 0 1 2 2 1]"}, // 0 has ended: not below 0 is 1
		{[]int{1, 1, 1, 1}, "[1 2 1 2 1 2]", "[1 1 2 2 0 0]"},    // 1 has ended: not below 1 is 2
		{[]int{0, 1, 2, 0, 1, 2, 0, 1, 2}, "[1 1 1 2 2 2]", "[0 1 2 0 1 2]"},
	} {
		o := held(t, code, 0, 1000, s.picks)
		if o.How != api.Done || o.Steps != 20 || fmt.Sprint(o.Outs) != s.outs || fmt.Sprint(o.Order) != s.order {
			t.Errorf("%v: %s", s.picks, tell(o))
		}
	}
}

// P37: picks are used up by meetings alone.
func TestPicksAreForMeetings(t *testing.T) {
	holdTurns(t, []turns{
		{listing{set(1, 1), set(2, 2), spawn(5, 2), tells(1), stop(), tells(0), stop()}, []int{1, 0}, "Done in 7 outs [2 1] order [1 0]"},
		{listing{jmp(1), set(2, 2), spawn(5, 2), tells(2), stop(), tells(0), stop()}, []int{1}, "Done in 7 outs [2 2] order [1 0]"},
		// Also where there is one thread alone.
		{listing{syncs(), spawn(4, 0), tells(0), stop(), tells(0), stop()}, []int{0, 1}, "Done in 6 outs [5 5] order [0 1 0]"},
		{listing{syncs(), spawn(4, 0), tells(0), stop(), tells(0), stop()}, []int{1, 0}, "Done in 6 outs [5 5] order [0 0 1]"},
		{listing{syncs(), spawn(4, 0), tells(0), stop(), tells(0), stop()}, []int{1}, "Done in 6 outs [5 5] order [0 0 1]"},
	})
}

// P37: what a meeting is: MSync, MWait, MOut, and the step with which all ends. All else is none, also a step that ends the run in another way.
func TestWhatMeets(t *testing.T) {
	// Main waits at a meeting while the thread does an instruction, then tells something.
	beside := func(in ...api.Ins) listing {
		return listing{adr(3, 4), set(4, 1), set(2, 3), spawn(6, 3), tells(2), stop()}.then(in...).then(tells(0), stop())
	}
	for _, in := range []api.Ins{set(1, 1), mov(1, 0), adr(1, 0), ld(1, 0, 0), st(0, 0, 0), op(api.OAdd, 1, 1, 1, 0), op(api.ODiv, 1, 1, 1, 7), jmp(7), jz(1, 7), calls(7, 0, 0), callsAt(2, 0, 0), panics(7), spawn(8, 0)} {
		ahead := []api.Ins{in}
		if in.Op == api.MCallAt {
			ahead = []api.Ins{set(2, 8), in}
		}
		if o := held(t, beside(ahead...), 5, 1000, []int{1}); fmt.Sprint(o.Order[:2]) != "[1 0]" || o.How != api.Done {
			t.Errorf("%v: %s", in, tell(o))
		}
		if o := held(t, beside(ahead...), 5, 4+len(ahead), []int{1}); len(o.Order) != 0 {
			t.Errorf("%v: %s", in, tell(o))
		}
	}
	for _, in := range []api.Ins{syncs(), tells(0), wait(0, 0)} {
		if o := held(t, beside(in), 5, 1000, []int{1, 0, 1}); o.How != api.Done || fmt.Sprint(o.Order) != "[1 0 1]" {
			t.Errorf("%v: %s", in, tell(o))
		}
	}
	holdTurns(t, []turns{
		// A step that is none ends the run ahead of all meetings.
		{beside(api.Ins{Op: 99}), []int{0}, "Broken in 5"},
		{beside(jmp(-5)), []int{0}, "Broken in 6"},
		{beside(ret()), []int{0}, "Broken in 5"},
		{beside(free(1)), []int{0}, "Broken in 5"},
		{beside(alloc(1, 0)), []int{0}, "NoRoom in 5"},
		{beside(set(words4M, 1)), []int{0}, "Deep in 5"},
		// Those that end the run are done in their turn.
		{beside(wait(1, 0)), []int{0}, "Broken in 7 outs [3] order [0 1]"},
		{beside(tells(-1)), []int{0}, "Broken in 7 outs [3] order [0 1]"},
		{beside(tells(words4M)), []int{1}, "Deep in 5 order [1]"},
		{beside(panics(7), panics(7)), []int{0}, "Aborted in 9 outs [3] order [0 1]"},
		{beside(panics(7), panics(7)), []int{1}, "Aborted in 7 order [1]"},
		{beside(panics(7), panics(-1)), []int{0}, "Aborted in 9 outs [3] order [0 1]"}, // it meets, wherever it goes on
		{beside(panics(7), panics(-1)), []int{1}, "Aborted in 7 order [1]"},
	})
}

// P37: an MWait can be done only while its word is not 0; if there is no such word it can be done, and ends the run.
func TestWait(t *testing.T) {
	// Main waits for its own slot 3, which the thread makes something.
	waiting := func(word int) listing {
		return listing{
			adr(1, 3), spawn(4, 1), wait(1, 0), gives(3),
			set(1, word), syncs(), st(0, 0, 1), syncs(), stop(),
		}
	}
	holdTurns(t, []turns{
		{waiting(7), nil, "Done in 9 gives 7 order [1 0 1]"},
		{waiting(7), []int{0, 1}, "Done in 9 gives 7 order [1 1 0]"},
		{waiting(-1), nil, "Done in 9 gives -1 order [1 0 1]"},
		{waiting(least), nil, "Done in 9 gives -9223372036854775808 order [1 0 1]"},
		{waiting(0), nil, "Stuck in 7 order [1 1]"},
		// Nobody makes it something.
		{listing{adr(1, 3), wait(1, 0)}, nil, "Stuck in 1"},
		{listing{wait(0, words4M-5)}, nil, "Broken in 2 order [0]"}, // the word is slot 0 itself, which is 5
		{listing{wait(0, words4M-4)}, nil, "Stuck in 0"},
		{listing{wait(0, 0)}, nil, "Broken in 1 order [0]"},
		{listing{wait(0, least)}, nil, "Broken in 1 order [0]"},
		{listing{set(0, least), wait(0, least+1)}, nil, "Broken in 2 order [0]"},
		{listing{wait(words4M, 0)}, nil, "Deep in 1 order [0]"},
		{listing{wait(-1, 0)}, nil, "Broken in 1 order [0]"},
		// A word of the heap: it can be waited for while its block is there.
		{listing{alloc(1, 0), st(1, 4, 0), wait(1, 4), stop()}, nil, "Done in 4 order [0] left 1"},
		{listing{alloc(1, 0), st(1, 4, 0), wait(1, 3), stop()}, nil, "Stuck in 2"},
		{listing{alloc(1, 0), st(1, 4, 0), wait(1, 5), stop()}, nil, "Broken in 3 order [0]"},
		{listing{alloc(1, 0), st(1, 4, 0), free(1), wait(1, 4), stop()}, nil, "Broken in 4 order [0]"},
		// The block of a word that is 0 is taken away while main waits: then it can, and ends the run.
		{listing{alloc(1, 0), spawn(4, 1), wait(1, 0), stop(), free(0), syncs(), stop()}, nil, "Broken in 4 order [0]"},
		{listing{alloc(1, 0), spawn(4, 1), wait(1, 0), stop(), syncs(), free(0), syncs(), stop()}, []int{0, 1}, "Broken in 7 order [1 1 0]"},
		// What another thread waits for, it may come not to be any more.
		{listing{adr(1, 3), set(3, 1), spawn(6, 1), tells(0), st(1, 0, 4), stop(), wait(0, 0), stop()}, nil, "Stuck in 6 outs [5] order [0]"},
		{listing{adr(1, 3), set(3, 1), spawn(6, 1), tells(0), st(1, 0, 4), stop(), wait(0, 0), stop()}, []int{1}, "Done in 8 outs [5] order [1 0]"},
		// Of two that wait, the one that can is picked, whatever the pick is.
		{listing{adr(1, 3), set(4, 1), spawn(6, 1), wait(1, 1), st(1, 0, 4), stop(), wait(0, 0), stop()}, []int{1}, "Done in 8 order [0 1]"},
		{listing{adr(1, 3), set(3, 1), spawn(6, 1), wait(1, 1), stop(), stop(), wait(0, 0), set(1, 2), st(0, 1, 1), stop()}, []int{0}, "Done in 9 order [1 0]"},
		// MWait writes nothing.
		{listing{adr(1, 3), set(3, 4), wait(1, 0), tells(3), gives(1)}, nil, "Done in 5 gives 4194307 outs [4] order [0 0]"},
	})
}

// P37: MStop ends a thread: with D 1 it gives main's value, with D 2 main ended by a panic, whichever thread does it.
func TestStop(t *testing.T) {
	other := func(thread api.Ins, main ...api.Ins) listing {
		return listing{spawn(5, 0), set(1, 8), {Op: api.MJmp, E: 6}, stop(), stop(), thread}.then(main...)
	}
	holdTurns(t, []turns{
		{listing{gives(0)}, nil, "Done in 1 gives 5"},
		{listing{fails()}, nil, "Failed in 1"},
		{listing{{Op: api.MStop, A: 0, D: 2}}, nil, "Failed in 1"},
		{listing{{Op: api.MStop, A: 0}}, nil, "Done in 1"},
		{listing{{Op: api.MStop, A: 0, D: 3}}, nil, "Done in 1"},
		{listing{{Op: api.MStop, A: 0, D: -1}}, nil, "Done in 1"},
		{other(stop(), gives(1)), nil, "Done in 5 gives 8"},
		{other(gives(0), gives(1)), nil, "Done in 5 gives 5"}, // the last one counts
		{other(gives(0), syncs(), gives(1)), nil, "Done in 6 gives 8 order [0]"},
		{other(gives(1), gives(1)), nil, "Done in 5"}, // the thread's slot 1 is 0
		{other(gives(0), stop()), nil, "Done in 5 gives 5"},
		{other(fails(), gives(1)), nil, "Failed in 5 gives 8"},
		{other(fails(), syncs(), gives(1)), nil, "Failed in 6 gives 8 order [0]"},
		{other(gives(0), fails()), nil, "Failed in 5 gives 5"},
		{other(fails(), fails()), nil, "Failed in 5"},
		// A thread that has ended is not picked any more, and does no step.
		{other(stop(), tells(0), tells(0), stop()), []int{1, 1}, "Done in 7 outs [5 5] order [0 0]"},
	})
}
