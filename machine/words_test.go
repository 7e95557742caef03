package machine

import (
	"fmt"
	"testing"

	"holdfast/api"
)

// P37: words are numbers of 64 bits; all of them are 0 at first, but main's slot 0, which is arg.
func TestWordsAtFirst(t *testing.T) {
	for _, word := range []int{0, 1, -1, most, least} {
		hold(t, []sample{
			{listing{gives(0)}, word, tell(api.Outcome{How: api.Done, Steps: 1, Value: word})},
			{listing{mov(5, 0), mov(0, 5), gives(5)}, word, tell(api.Outcome{How: api.Done, Steps: 3, Value: word})},
		})
	}
	hold(t, []sample{
		{listing{gives(1)}, 5, "Done in 1"},
		{listing{gives(1023)}, 5, "Done in 1"},
		{listing{gives(words4M - 1)}, 5, "Done in 1"},
		{listing{alloc(1, 0), ld(2, 1, 0), tells(2), ld(2, 1, 4), tells(2), stop()}, 5, "Done in 6 outs [0 0] order [0 0] left 1"},
		// Of another thread slot 0 alone is given.
		{listing{spawn(3, 0), syncs(), stop(), tells(0), tells(1), stop()}, 5, "Done in 6 outs [5 0] order [0 1 1]"},
	})
}

// P37: the heap's addresses are those from 1 to HeapWords - 1, main's stack begins right behind them.
func TestAddresses(t *testing.T) {
	whole := listing{alloc(1, 0), set(2, 7)} // slot 1: the first word of a block that is the whole heap
	hold(t, []sample{
		{whole.then(gives(1)), words4M - 1, "Done in 3 gives 1 left 1"},
		{whole.then(st(1, 0, 2), ld(3, 1, 0), gives(3)), words4M - 1, "Done in 5 gives 7 left 1"},
		{whole.then(st(1, words4M-2, 2), ld(3, 1, words4M-2), gives(3)), words4M - 1, "Done in 5 gives 7 left 1"},
		{whole.then(ld(3, 1, words4M-2), ld(4, 1, words4M-1), gives(4)), words4M - 1, "Done in 5 gives 4194303 left 1"}, // main's slot 0
		{whole.then(st(1, -1, 2)), words4M - 1, "Broken in 3"},
		{whole.then(ld(3, 1, -1)), words4M - 1, "Broken in 3"},
		{listing{adr(1, 0), gives(1)}, 0, "Done in 2 gives 4194304"},
		{listing{adr(1, words4M-1), gives(1)}, 0, "Done in 2 gives 8388607"},
		// Words that lie far from one another, and those next to each other, are other ones.
		{listing{set(1023, 1), set(1024, 2), set(1025, 3), set(4095*1024, 4), tells(1023), tells(1024), tells(1025), tells(4095 * 1024), tells(2047), stop()}, 0, "Done in 10 outs [1 2 3 4 0] order [0 0 0 0 0]"},
	})
}

// P37: thread t's stack is the HeapWords addresses from (t + 1) * HeapWords on; each one's frame is the first at first.
func TestStacks(t *testing.T) {
	// Each thread tells the address of its slot 0, then begins the next one.
	code := listing{adr(1, 0), tells(1), adr(1, words4M-1), tells(1), spawn(0, 0), syncs(), stop()}
	want := []int{}
	for n := range api.MaxThreads {
		want = append(want, (n+1)*words4M, (n+2)*words4M-1)
	}
	o := held(t, code, 0, 10000, nil)
	if o.How != api.Full || fmt.Sprint(o.Outs) != fmt.Sprint(want) {
		t.Errorf("%s, not Full with outs %v", tell(o), want)
	}
	hold(t, []sample{
		// Main writes to the thread's slot 1, and the thread to main's.
		{listing{spawn(8, 0), syncs(), set(1, 3*words4M-1), set(2, 6), st(1, 0, 2), syncs(), syncs(), stop(), syncs(), tells(words4M - 1), stop()}, 0, "Done in 11 outs [6] order [0 0 0 1 1]"},
		// Also when the thread has ended.
		{listing{spawn(7, 0), jmp(2), syncs(), set(1, 2*words4M), ld(2, 1, 0), gives(2), stop(), stop()}, 9, "Done in 7 gives 9 order [0]"},
		{listing{spawn(4, 0), syncs(), ld(2, 0, 3), gives(2), set(3, 8), adr(0, 0), st(0, 3, 3), stop()}, 2 * words4M, "Done in 8 gives 8 order [0]"},
	})
}

// slotted are instructions, each with one slot that is looked at, and all else as it may be: slot 0 is an address of main's stack, and no block is there.
func slotted(k int) []listing {
	return []listing{
		{set(k, 1)},
		{mov(k, 0)}, {mov(1, k)},
		{adr(k, 0)}, {adr(1, k)},
		{ld(k, 0, 0)}, {ld(1, k, 0)},
		{st(k, 0, 0)}, {st(0, 0, k)},
		{op(api.OAdd, k, 1, 2, 9)}, {op(api.OAdd, 1, k, 2, 9)}, {op(api.OAdd, 1, 2, k, 9)},
		{op(api.ONeg, k, 1, 0, 9)}, {op(api.ONeg, 1, k, 0, 9)}, {op(api.ONot, k, 1, 0, 9)}, {op(api.ONot, 1, k, 0, 9)},
		{jz(k, 9)},
		{calls(0, k, 9)},
		{callsAt(k, 0, 9)}, {callsAt(1, k, 9)},
		{alloc(k, 2)}, {alloc(1, k)},
		{free(k)},
		{spawn(0, k)},
		{wait(k, 0)}, {tells(k)},
		{gives(k)},
	}
}

// P37: a slot below 0 is Broken, one behind the end of the stack Deep, whatever the instruction is.
func TestSlots(t *testing.T) {
	for _, c := range []struct {
		slot int
		want int
	}{{-1, api.Broken}, {-words4M, api.Broken}, {least, api.Broken}, {words4M, api.Deep}, {words4M + 1, api.Deep}, {most, api.Deep}} {
		for i, code := range slotted(c.slot) {
			met := 0
			if code[0].Op == api.MWait || code[0].Op == api.MOut {
				met = 1
			}
			// Ahead of it slot 2 becomes 1, so that as many words can be had.
			o := held(t, listing{set(2, 1), jmp(2)}.then(code...), words4M, 100, nil)
			if o.How != c.want || o.Steps != 3 || len(o.Order) != met || len(o.Outs) != 0 || o.Value != 0 {
				t.Errorf("%d: slot %d: %s", i, c.slot, tell(o))
			}
		}
	}
	// The last one is a slot; and slots that are not looked at may be any.
	last := words4M - 1
	hold(t, []sample{
		{listing{set(last, 3), mov(1, last), gives(1)}, 0, "Done in 3 gives 3"},
		{listing{mov(last, 0), gives(last)}, 4, "Done in 2 gives 4"},
		{listing{op(api.ONeg, 1, 0, -1, -1), gives(1)}, 4, "Done in 2 gives -4"},
		{listing{op(api.ONot, 1, 0, words4M, -1), gives(1)}, 0, "Done in 2 gives 1"},
		{listing{{Op: api.MStop, A: -1}}, 0, "Done in 1"},
		{listing{{Op: api.MStop, A: words4M, D: 2}}, 0, "Failed in 1"},
		{listing{{Op: api.MStop, A: -1, D: 3}}, 0, "Done in 1"},
		{listing{{Op: api.MJmp, A: -1, B: -1, C: -1, D: -1, E: 1}, {Op: api.MSync, A: -1, B: -1, C: -1, D: -1, E: -1}, {Op: api.MSet, A: 1, B: -7, C: -1, D: -1, E: -1}, gives(1)}, 0, "Done in 4 gives -7 order [0]"},
	})
}

// P37: within a call slots count from its frame on; those ahead of it are none, and its stack ends where the thread's does.
func TestSlotsWithinCalls(t *testing.T) {
	within := func(frame int, in ...api.Ins) listing {
		return listing{calls(3, frame, 9), tells(4), stop()}.then(in...)
	}
	hold(t, []sample{
		{within(4, set(0, 8), ret()), 0, "Done in 5 outs [8] order [0]"},
		{within(3, set(1, 8), ret()), 0, "Done in 5 outs [8] order [0]"},
		{within(4, adr(0, 0), ret()), 0, "Done in 5 outs [4194308] order [0]"},
		{within(4, set(-1, 8)), 0, "Broken in 2"},
		{within(4, mov(0, -4)), 0, "Broken in 2"},
		{within(4, set(words4M-4, 8)), 0, "Deep in 2"},
		{within(4, set(words4M-1, 8)), 0, "Deep in 2"},
		{within(4, set(most, 8)), 0, "Deep in 2"},
		{within(4, set(words4M-5, 8), set(words4M-5, 0), ret()), 0, "Done in 6 outs [0] order [0]"},
		{within(words4M-1, set(0, 8), ret()), 0, "Done in 5 outs [0] order [0]"},
		{within(words4M-1, set(1, 8)), 0, "Deep in 2"},
		{within(words4M-1, calls(3, 1, 0)), 0, "Deep in 2"},
		{within(words4M-1, calls(3, 0, 0)), 0, "Going in 10000"},
	})
}

// reaching are instructions that look for the word at slot 0 + c.
func reaching(c int) []listing {
	return []listing{{ld(1, 0, c)}, {st(0, c, 1)}, {wait(0, c)}}
}

// P37: which words there are at a + c.
func TestWordsAt(t *testing.T) {
	for _, s := range []struct {
		a, c int
		has  bool
	}{
		{0, 0, false}, {-1, 0, false}, {0, -1, false}, {least, 0, false}, {0, least, false}, {1, -1, false},
		// Blocks: 1 to 3, 4 (taken away), 5 to 8.
		{1, 0, true}, {0, 1, true}, {3, 0, true}, {4, 0, false}, {3, 1, false}, {5, -1, false}, {5, 0, true}, {4, 1, true}, {8, 0, true}, {6, 2, true}, {9, 0, false}, {8, 1, false},
		{10, -9, true}, {-9, 10, true}, {words4M - 1, 0, false}, {words4M, -1, false},
		// Main's stack, and that of a thread which has ended; the third one has not been begun.
		{words4M, 0, true}, {0, words4M, true}, {2*words4M - 1, 0, true}, {2 * words4M, 0, true}, {3*words4M - 1, 0, true}, {3*words4M - 1, 1, false}, {3 * words4M, 0, false}, {3 * words4M, -1, true}, {(api.MaxThreads + 1) * words4M, 0, false}, {most, 0, false}, {0, most, false},
		// Sums that are no numbers of 64 bits, some of which would be addresses if they were cut to 64 bits.
		{most, 1, false}, {1, most, false}, {most, most, false}, {least, least, false}, {least, -1, false}, {-1, least, false},
		{least, least + 1, false}, {least + 1, least, false}, {least, least + words4M, false}, {least + words4M, least, false}, {least + 1, -most, false},
		// Sums that are, of numbers that are none.
		{most, -most + words4M, true}, {-most + words4M, most, true}, {least + words4M, most, false}, {least + words4M + 1, most, true}, {least + 1, most, false}, {least + 2, most, true},
	} {
		for _, code := range reaching(s.c) {
			ahead := listing{
				set(2, 3), alloc(1, 2), set(2, 1), alloc(3, 2), set(2, 4), alloc(1, 2), free(3), spawn(9, 0), jmp(10), stop(), set(1, 0), syncs(),
			}
			o := held(t, ahead.then(code...).then(stop()), s.a, 100, nil)
			if (o.How == api.Broken) == s.has {
				t.Errorf("%d + %d: %s: %v", s.a, s.c, tell(o), code)
			}
		}
	}
}
