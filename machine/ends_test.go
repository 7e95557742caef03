package machine

import (
	"slices"
	"testing"

	"holdfast/api"
)

// P37: each way in which a run ends, with what it has come to: main's value, what has been told, who has met. What is left is told of Done and Failed alone.
func TestWaysToEnd(t *testing.T) {
	// A block is made and something told; a thread gives main's value, and then main goes on.
	ahead := listing{alloc(1, 0), spawn(3, 0), jmp(4), gives(0), tells(1)}
	hold(t, []sample{
		{ahead.then(stop()), 3, "Done in 6 gives 3 outs [1] order [0] left 1"},
		{ahead.then(gives(1)), 3, "Done in 6 gives 1 outs [1] order [0] left 1"},
		{ahead.then(free(1), stop()), 3, "Done in 7 gives 3 outs [1] order [0]"},
		{ahead.then(alloc(2, 0), stop()), 3, "Done in 7 gives 3 outs [1] order [0] left 2"},
		{ahead.then(fails()), 3, "Failed in 6 gives 3 outs [1] order [0] left 1"},
		{ahead.then(free(1), fails()), 3, "Failed in 7 gives 3 outs [1] order [0]"},
		{ahead.then(adr(2, 9), wait(2, 0)), 3, "Stuck in 6 gives 3 outs [1] order [0]"},
		{ahead.then(jmp(5)), 3, "Going in 10000 gives 3 outs [1] order [0]"},
		{ahead, 3, "Broken in 6 gives 3 outs [1] order [0]"},
		{ahead.then(tells(-1)), 3, "Broken in 6 gives 3 outs [1] order [0 0]"},
		{ahead.then(wait(3, 0)), 3, "Broken in 6 gives 3 outs [1] order [0 0]"},
		{ahead.then(set(words4M, 0)), 3, "Deep in 6 gives 3 outs [1] order [0]"},
		{ahead.then(tells(words4M)), 3, "Deep in 6 gives 3 outs [1] order [0 0]"},
		{ahead.then(gives(words4M)), 3, "Deep in 6 gives 3 outs [1] order [0]"},
		{ahead.then(set(2, words4M), alloc(2, 2)), 3, "NoRoom in 7 gives 3 outs [1] order [0]"},
		{ahead.then(spawn(6, 0), jmp(5), stop()), 3, "Full in 26 gives 3 outs [1] order [0]"},
		{ahead.then(panics(6), panics(0)), 3, "Aborted in 8 gives 3 outs [1] order [0 0]"},
	})
}

// P37: Stuck needs a thread that has not ended; those that have ended do not matter, nor whether main is among them.
func TestStuck(t *testing.T) {
	hold(t, []sample{
		{listing{adr(1, 2), wait(1, 0)}, 0, "Stuck in 1"},
		{listing{adr(1, 2), spawn(3, 1), gives(0), wait(0, 0)}, 4, "Stuck in 3 gives 4"},
		{listing{adr(1, 2), spawn(3, 1), fails(), wait(0, 0)}, 4, "Stuck in 3"},
		{listing{adr(1, 2), spawn(3, 1), wait(1, 0), stop()}, 4, "Stuck in 3"},
		{listing{adr(1, 2), spawn(3, 1), wait(1, 0), wait(0, 0)}, 4, "Stuck in 2"},
	})
	for _, fuel := range []int{-5, 0, 3} {
		if o := held(t, listing{wait(0, 0)}, words4M+1, fuel, nil); tell(o) != "Stuck in 0" {
			t.Errorf("fuel %d: %s: no step is due", fuel, tell(o))
		}
	}
}

// P37: below 0 the fuel is 0; with just enough the run ends, with one step too few it is Going.
func TestFuel(t *testing.T) {
	code := listing{set(1, 2), tells(1), gives(0)}
	for _, s := range []struct {
		fuel int
		want string
	}{
		{least, "Going in 0"}, {-1, "Going in 0"}, {0, "Going in 0"}, {1, "Going in 1"}, {2, "Going in 2 outs [2] order [0]"},
		{3, "Done in 3 gives 6 outs [2] order [0]"}, {4, "Done in 3 gives 6 outs [2] order [0]"}, {most, "Done in 3 gives 6 outs [2] order [0]"},
	} {
		if o := held(t, code, 6, s.fuel, nil); tell(o) != s.want {
			t.Errorf("fuel %d: %s, not %s", s.fuel, tell(o), s.want)
		}
	}
	for _, fuel := range []int{-1, 0, 1} {
		o := held(t, nil, 0, fuel, nil)
		if want := []string{"Going in 0", "Going in 0", "Broken in 1"}[fuel+1]; tell(o) != want {
			t.Errorf("no code, fuel %d: %s", fuel, tell(o))
		}
	}
}

// P37: there are at most MaxMachine steps.
func TestMostSteps(t *testing.T) {
	// 2 steps, 3 for each one of arg, then 2.
	code := listing{set(1, 1), jmp(2), jz(0, 5), op(api.OSub, 0, 0, 1, 9), jmp(2), gives(1)}
	n := (api.MaxMachine - 4) / 3
	for _, s := range []struct {
		code      listing
		arg, fuel int
		how       int
		steps     int
	}{
		{code, n, api.MaxMachine, api.Done, api.MaxMachine},
		{code, n, api.MaxMachine - 1, api.Going, api.MaxMachine - 1},
		{code, n, most, api.Done, api.MaxMachine},
		{code, n + 1, api.MaxMachine, api.Going, api.MaxMachine},
		{code, n + 1, api.MaxMachine + 3, api.Going, api.MaxMachine},
		{code, n + 1, most, api.Going, api.MaxMachine},
		{listing{jmp(0)}, 0, most, api.Going, api.MaxMachine},
		{listing{jmp(0)}, 0, api.MaxMachine + 1, api.Going, api.MaxMachine},
	} {
		if o := Run(s.code, s.arg, s.fuel, nil); o.How != s.how || o.Steps != s.steps {
			t.Errorf("arg %d fuel %d: %s", s.arg, s.fuel, tell(o))
		}
	}
}

// P37: calls as deep as a stack is, blocks till there is no room, meetings without end.
func TestGreatRuns(t *testing.T) {
	for i, s := range []sample{
		{listing{calls(0, 2, 0)}, 0, "Deep in 2097152"},
		{listing{calls(0, 0, 0)}, 0, "Going in 4000000"},
		{listing{alloc(1, 0), jmp(0)}, 3, "NoRoom in 2796203"}, // 1398101 blocks
		{listing{alloc(1, 0), free(1), jmp(0)}, words4M - 1, "Going in 4000000"},
	} {
		if o := Run(s.code, s.arg, most, nil); tell(o) != s.want {
			t.Errorf("%d: %s, not %s", i, tell(o), s.want)
		}
	}
	o := Run(listing{tells(0), jmp(0)}, 7, most, nil)
	if o.How != api.Going || o.Steps != api.MaxMachine || len(o.Outs) != api.MaxMachine/2 || len(o.Order) != api.MaxMachine/2 {
		t.Errorf("how %d, %d steps, %d outs, %d meetings", o.How, o.Steps, len(o.Outs), len(o.Order))
	}
}

// P2: what a call answers is its own, and hangs on what it is given alone.
func TestOwnMemory(t *testing.T) {
	code := listing{spawn(3, 0), tells(0), gives(0), tells(0), stop()}
	picks := []int{1, 0}
	first := held(t, code, 5, 100, picks)
	want := tell(first)
	first.Outs[0], first.Order[0] = 99, 99
	if !slices.Equal(picks, []int{1, 0}) || first.Order[1] != 0 || first.Outs[1] != 5 {
		t.Errorf("picks %v, %s", picks, tell(first))
	}
	_ = append(first.Outs, 1)
	second := held(t, code, 5, 100, picks)
	if tell(second) != want {
		t.Errorf("%s, not %s", tell(second), want)
	}
}
