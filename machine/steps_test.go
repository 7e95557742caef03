package machine

import (
	"testing"

	"holdfast/api"
)

// P37: code begins at number 0; where there is no instruction the run is Broken.
func TestWhereCodeGoesOn(t *testing.T) {
	hold(t, []sample{
		{nil, 0, "Broken in 1"},
		{listing{}, 0, "Broken in 1"},
		{listing{stop(), gives(0)}, 5, "Done in 1"},
		{listing{set(1, 2)}, 0, "Broken in 2"},
		{listing{set(1, 2), set(1, 3)}, 0, "Broken in 3"},
		{listing{syncs()}, 0, "Broken in 2 order [0]"},
		{listing{jmp(1)}, 0, "Broken in 2"},
		{listing{jmp(2)}, 0, "Broken in 2"},
		{listing{jmp(-1)}, 0, "Broken in 2"},
		{listing{jmp(least)}, 0, "Broken in 2"},
		{listing{jmp(most)}, 0, "Broken in 2"},
		{listing{jz(1, -1)}, 0, "Broken in 2"},
		{listing{calls(1, 0, 0)}, 0, "Broken in 2"},
		{listing{calls(-1, 0, 0)}, 0, "Broken in 2"},
		{listing{callsAt(0, 0, 0)}, 1, "Broken in 2"},
		{listing{callsAt(0, 0, 0)}, -1, "Broken in 2"},
		{listing{callsAt(0, 0, 0)}, most, "Broken in 2"},
		{listing{calls(1, 0, -1), resume()}, 0, "Broken in 3"},
		{listing{jmp(2), ret(), calls(1, 0, 0)}, 0, "Broken in 4"},
		{listing{panics(1)}, 0, "Broken in 2"},
		{listing{panics(-1)}, 0, "Broken in 2"},
		{listing{op(api.ODiv, 0, 0, 0, 7)}, 0, "Broken in 2"},
		{listing{spawn(-1, 0), stop()}, 0, "Broken in 3"},
		{listing{spawn(9, 0), gives(0)}, 6, "Broken in 3 gives 6"},
	})
}

// P37: an Op that is none.
func TestOpsThatAreNone(t *testing.T) {
	for _, number := range []int{-1, -2, least, 20, 21, 99, most} {
		hold(t, []sample{
			{listing{{Op: number}}, 0, "Broken in 1"},
			{listing{{Op: number, A: -1, B: words4M, C: words4M, D: 99, E: -1}}, 0, "Broken in 1"},
			{listing{tells(0), {Op: number}, stop()}, 3, "Broken in 2 outs [3] order [0]"},
		})
	}
}

// P37: MSet, MMov, MAdr, MLd, MSt.
func TestMoving(t *testing.T) {
	hold(t, []sample{
		{listing{set(1, 7), gives(1)}, 0, "Done in 2 gives 7"},
		{listing{set(1, least), set(2, most), tells(1), tells(2), stop()}, 0, "Done in 5 outs [-9223372036854775808 9223372036854775807] order [0 0]"},
		{listing{set(0, 7), set(0, -1), gives(0)}, 4, "Done in 3 gives -1"},
		{listing{mov(1, 0), set(0, 2), tells(0), gives(1)}, 9, "Done in 4 gives 9 outs [2] order [0]"},
		{listing{mov(0, 0), gives(0)}, 9, "Done in 2 gives 9"},
		{listing{adr(3, 3), gives(3)}, 9, "Done in 2 gives 4194307"},
		{listing{adr(3, 6), st(3, 0, 0), tells(6), st(3, -1, 0), gives(5)}, 9, "Done in 5 gives 9 outs [9] order [0]"},
		{listing{adr(3, 6), set(6, 8), ld(1, 3, 0), tells(1), ld(1, 3, -6), gives(1)}, 9, "Done in 6 gives 9 outs [8] order [0]"},
		{listing{adr(1, 1), ld(1, 1, -1), gives(1)}, 9, "Done in 3 gives 9"}, // what it reads by is what it writes
		{listing{adr(1, 0), st(1, 1, 1), tells(1), st(1, 0, 1), gives(0)}, 9, "Done in 5 gives 4194304 outs [4194304] order [0]"},
		{listing{adr(1, 0), st(1, 0, 1), ld(2, 0, 1), tells(2), gives(0)}, 9, "Done in 5 gives 4194304 outs [4194304] order [0]"},
	})
}

// P37: MOp: each operator, with what panics.
func TestOperators(t *testing.T) {
	// Slot 2 is b, slot 3 is c, slot 1 is 77 before; where it is a panic, that's told at 6.
	reckons := func(d, b, c int) listing {
		return listing{set(2, b), set(3, c), set(1, 77), op(d, 1, 2, 3, 6), tells(1), stop(), tells(1), fails()}
	}
	for _, s := range []struct {
		d, b, c int
		want    string
	}{
		{api.OAdd, 3, 4, "7"}, {api.OAdd, most, 0, "9223372036854775807"}, {api.OAdd, most, 1, "panic"}, {api.OAdd, most, least, "-1"}, {api.OAdd, least, -1, "panic"}, {api.OAdd, least, 1, "-9223372036854775807"}, {api.OAdd, least, least, "panic"}, {api.OAdd, 1 << 62, 1 << 62, "panic"},
		{api.OSub, 3, 4, "-1"}, {api.OSub, least, 1, "panic"}, {api.OSub, most, -1, "panic"}, {api.OSub, 0, least, "panic"}, {api.OSub, -1, least, "9223372036854775807"}, {api.OSub, least, least, "0"},
		{api.OMul, 3, 4, "12"}, {api.OMul, least, -1, "panic"}, {api.OMul, -1, least, "panic"}, {api.OMul, least, 1, "-9223372036854775808"}, {api.OMul, 1 << 32, 1 << 31, "panic"}, {api.OMul, 1 << 32, -1 << 31, "-9223372036854775808"}, {api.OMul, 0, least, "0"}, {api.OMul, most, 2, "panic"},
		{api.ODiv, 7, 2, "3"}, {api.ODiv, -7, 2, "-3"}, {api.ODiv, 7, -2, "-3"}, {api.ODiv, -7, -2, "3"}, {api.ODiv, 7, 0, "panic"}, {api.ODiv, 0, 0, "panic"}, {api.ODiv, least, -1, "panic"}, {api.ODiv, least, 1, "-9223372036854775808"}, {api.ODiv, least + 1, -1, "9223372036854775807"},
		{api.ORem, 7, 2, "1"}, {api.ORem, -7, 2, "-1"}, {api.ORem, 7, -2, "1"}, {api.ORem, -7, -2, "-1"}, {api.ORem, 7, 0, "panic"}, {api.ORem, least, -1, "panic"}, {api.ORem, most, -1, "0"}, {api.ORem, least, most, "-1"},
		{api.OEq, 3, 3, "1"}, {api.OEq, least, most, "0"}, {api.ONe, 3, 3, "0"}, {api.ONe, least, most, "1"},
		{api.OLt, least, most, "1"}, {api.OLt, most, least, "0"}, {api.OLt, 3, 3, "0"}, {api.OLe, 3, 3, "1"}, {api.OLe, most, least, "0"}, {api.OLe, least, most, "1"},
		{api.OGt, most, least, "1"}, {api.OGt, least, most, "0"}, {api.OGt, 3, 3, "0"}, {api.OGe, 3, 3, "1"}, {api.OGe, least, most, "0"}, {api.OGe, most, least, "1"},
		{api.ONeg, 5, 9, "-5"}, {api.ONeg, -5, 9, "5"}, {api.ONeg, 0, 9, "0"}, {api.ONeg, most, 9, "-9223372036854775807"}, {api.ONeg, least, 9, "panic"},
		{api.ONot, 0, 9, "1"}, {api.ONot, 1, 9, "0"}, {api.ONot, 2, 9, "0"}, {api.ONot, -1, 9, "0"}, {api.ONot, most, 9, "0"}, {api.ONot, least, 9, "0"},
	} {
		want := "Done in 6 outs [" + s.want + "] order [0]"
		if s.want == "panic" {
			want = "Failed in 6 outs [77] order [0]" // nothing is written
		}
		hold(t, []sample{{reckons(s.d, s.b, s.c), 0, want}})
	}
}

// P37: the operators of all pairs of numbers at the ends, against the oracle.
func TestOperatorsAtTheEnds(t *testing.T) {
	ends := []int{least, least + 1, least / 2, -1 << 32, -3037000500, -3, -2, -1, 0, 1, 2, 3, 3037000499, 3037000500, 1 << 31, 1 << 32, most / 2, most/2 + 1, most - 1, most}
	for d := api.OAdd; d <= api.ONot; d++ {
		for _, b := range ends {
			for _, c := range ends {
				held(t, listing{set(1, c), op(d, 2, 0, 1, 4), gives(2), stop(), fails()}, b, 10, nil)
			}
		}
	}
}

// P37: a D that is none; what an operator writes may be what it reads.
func TestOperatorsThatAreNone(t *testing.T) {
	for _, d := range []int{-1, least, 13, 14, most} {
		hold(t, []sample{{listing{op(d, 1, 0, 0, 1), stop()}, 3, "Broken in 1"}})
	}
	hold(t, []sample{
		{listing{op(api.OAdd, 0, 0, 0, 9), gives(0)}, 3, "Done in 2 gives 6"},
		{listing{op(api.ONeg, 0, 0, 0, 9), gives(0)}, 3, "Done in 2 gives -3"},
		// By a panic of an operator the thread is in none: the MPanic behind it is the first one.
		{listing{op(api.ODiv, 0, 0, 1, 2), stop(), op(api.ODiv, 0, 0, 1, 3), panics(4), fails()}, 3, "Failed in 4"},
	})
}

// P37: MJmp, MJz.
func TestJumps(t *testing.T) {
	hold(t, []sample{
		{listing{jmp(2), stop(), gives(0)}, 4, "Done in 2 gives 4"},
		{listing{jmp(0)}, 0, "Going in 10000"},
		{listing{jz(0, 2), gives(0), fails()}, 4, "Done in 2 gives 4"},
		{listing{jz(0, 2), gives(0), fails()}, -1, "Done in 2 gives -1"},
		{listing{jz(0, 2), gives(0), fails()}, least, "Done in 2 gives -9223372036854775808"},
		{listing{jz(0, 2), gives(0), fails()}, 0, "Failed in 2"},
		// 1 + .. + arg
		{listing{set(2, -1), jz(0, 5), op(api.OAdd, 1, 1, 0, 9), op(api.OAdd, 0, 0, 2, 9), jmp(1), gives(1)}, 4, "Done in 19 gives 10"},
	})
}

// P37: a call has its frame at a slot; behind it the one before comes back, and it goes on behind the call.
func TestCalls(t *testing.T) {
	hold(t, []sample{
		{listing{set(3, 1), calls(4, 3, 9), tells(3), gives(4), mov(1, 0), set(0, 5), ret()}, 0, "Done in 7 gives 1 outs [5] order [0]"},
		{listing{set(2, 5), callsAt(2, 3, 9), tells(3), stop(), stop(), set(0, 8), ret()}, 0, "Done in 6 outs [8] order [0]"},
		{listing{callsAt(0, 0, 9), tells(0), stop(), set(0, 8), ret()}, 3, "Done in 5 outs [8] order [0]"}, // what says where it goes on is what it writes
		{listing{calls(2, 0, 9), gives(0), ret()}, 6, "Done in 3 gives 6"},
		{listing{calls(1, 0, 9), ret()}, 6, "Broken in 3"}, // behind the call stands the MRet itself, which is in no call then
		// Calls within calls: each frame is told from the one before.
		{listing{calls(3, 2, 9), tells(6), gives(2), adr(0, 0), calls(6, 3, 9), ret(), adr(1, 0), calls(9, 1, 9), ret(), set(0, 7), ret()}, 0, "Done in 11 gives 4194306 outs [7] order [0]"},
		// A call from within itself: 3 * 2 * 1.
		{listing{
			mov(1, 0), calls(3, 1, 9), gives(1),
			set(2, 1), jz(0, 10), op(api.OSub, 3, 0, 2, 12), calls(3, 3, 12), op(api.OMul, 0, 0, 3, 12), ret(),
			stop(), mov(0, 2), ret(), fails(),
		}, 3, "Done in 25 gives 6"},
		{listing{ret()}, 0, "Broken in 1"},
		{listing{resume()}, 0, "Broken in 1"},
		{listing{calls(3, 0, 9), ret(), stop(), ret()}, 0, "Broken in 3"},
		{listing{calls(3, 0, 9), resume(), stop(), ret()}, 0, "Broken in 3"},
		// A call that has been left by MStop.
		{listing{calls(1, 2, 9), gives(0)}, 4, "Done in 2"},
		{listing{calls(2, 2, 9), stop(), set(0, 4), gives(0)}, 4, "Done in 3 gives 4"},
	})
}

// P37: MResume leaves a call for its E, with its frame; MPanic says where it goes on.
func TestPanicsLeaveCalls(t *testing.T) {
	hold(t, []sample{
		{listing{calls(2, 1, 4), stop(), panics(3), resume(), tells(0), fails()}, 6, "Failed in 5 outs [6] order [0]"},
		{listing{set(1, 3), callsAt(1, 2, 5), stop(), panics(4), resume(), tells(0), fails()}, 6, "Failed in 6 outs [6] order [0]"},
		// Out of three calls, each of which tells its own slot 0.
		{listing{
			calls(3, 1, 2), stop(), fails(),
			set(0, 1), calls(7, 1, 6), stop(), jmp(11),
			set(0, 2), calls(12, 1, 10), stop(), jmp(11),
			jmp(14), set(0, 3), panics(14), tells(0), resume(),
		}, 0, "Failed in 18 outs [3 2 1] order [0 0 0]"},
		// A call may be left so without a panic, and by a panic as if there were none.
		{listing{calls(3, 1, 2), fails(), gives(0), resume()}, 6, "Done in 3 gives 6"},
		{listing{calls(3, 1, 2), gives(0), fails(), panics(4), ret()}, 6, "Done in 4 gives 6"},
	})
}

// P37: a second panic: the next step is that all ends.
func TestSecondPanic(t *testing.T) {
	hold(t, []sample{
		{listing{panics(1), panics(2), stop()}, 0, "Aborted in 3 order [0]"},
		{listing{panics(1), panics(-1)}, 0, "Aborted in 3 order [0]"}, // wherever it goes on
		{listing{panics(0)}, 0, "Aborted in 3 order [0]"},
		// It is in a panic for good, whatever it leaves.
		{listing{calls(2, 1, 4), stop(), panics(3), resume(), calls(6, 1, 9), stop(), panics(7), ret()}, 0, "Aborted in 6 order [0]"},
		{listing{calls(3, 1, 9), panics(9), stop(), panics(4), ret()}, 0, "Aborted in 5 order [0]"},
		{listing{panics(2), stop(), jmp(3), syncs(), set(1, 4), tells(1), panics(0)}, 0, "Aborted in 7 outs [4] order [0 0 0]"},
		// What main gave before stands.
		{listing{spawn(2, 0), gives(0), panics(3), panics(2)}, 6, "Aborted in 5 gives 6 order [1]"},
		// Another thread is in no panic, though the one that began it is.
		{listing{panics(1), spawn(3, 0), stop(), panics(4), tells(0), fails()}, 6, "Failed in 6 outs [6] order [1]"},
		{listing{spawn(3, 0), panics(2), stop(), panics(4), stop()}, 6, "Done in 5"},
	})
}

// P37: MAlloc and MFree.
func TestBlocks(t *testing.T) {
	hold(t, []sample{
		{listing{alloc(1, 0), tells(1), alloc(1, 0), tells(1), free(1), stop()}, 3, "Done in 6 outs [1 4] order [0 0] left 1"},
		{listing{alloc(0, 0), gives(0)}, 3, "Done in 2 gives 1 left 1"},
		{listing{alloc(1, 0), alloc(2, 0), free(1), alloc(3, 0), gives(3)}, 3, "Done in 5 gives 1 left 2"},
		{listing{alloc(1, 0), alloc(2, 0), free(2), free(1), stop()}, 3, "Done in 5"},
		{listing{alloc(1, 0)}, 0, "Broken in 1"},
		{listing{alloc(1, 0)}, -1, "Broken in 1"},
		{listing{alloc(1, 0)}, least, "Broken in 1"},
		{listing{alloc(1, 0)}, words4M, "NoRoom in 1"},
		{listing{alloc(1, 0)}, most, "NoRoom in 1"},
		{listing{alloc(1, 0), gives(1)}, words4M - 1, "Done in 2 gives 1 left 1"},
		{listing{alloc(1, 0), set(2, 1), alloc(1, 2), stop()}, words4M - 1, "NoRoom in 3"},
		{listing{alloc(1, 0), set(2, 1), alloc(1, 2), gives(1)}, words4M - 2, "Done in 4 gives 4194303 left 2"},
		{listing{alloc(1, 0), free(1), alloc(1, 0), gives(1)}, words4M - 1, "Done in 4 gives 1 left 1"},
		// Words keep what they held, also in another block.
		{listing{alloc(1, 0), st(1, 1, 0), free(1), alloc(2, 0), ld(3, 2, 1), gives(3)}, 3, "Done in 6 gives 3 left 1"},
		{listing{alloc(1, 0), st(1, 2, 0), free(1), set(2, 2), alloc(3, 2), set(2, 1), alloc(4, 2), ld(5, 4, 0), gives(5)}, 3, "Done in 9 gives 3 left 2"},
		// MFree needs the first word of a block.
		{listing{free(0)}, 0, "Broken in 1"},
		{listing{free(0)}, 1, "Broken in 1"},
		{listing{free(0)}, -1, "Broken in 1"},
		{listing{free(0)}, words4M, "Broken in 1"},
		{listing{free(0)}, least, "Broken in 1"},
		{listing{alloc(1, 0), free(1), free(1)}, 3, "Broken in 3"},
		{listing{alloc(1, 0), set(2, 2), free(2)}, 3, "Broken in 3"},
		{listing{alloc(1, 0), set(2, 4), free(2)}, 3, "Broken in 3"},
		{listing{alloc(1, 0), adr(2, 0), free(2)}, 3, "Broken in 3"},
	})
}

// P37: slots are read from left to right, then the one that is written is found; the first thing for which the run ends counts.
func TestWhichEndComesFirst(t *testing.T) {
	low, high := -1, words4M
	hold(t, []sample{
		{listing{mov(low, high)}, 0, "Deep in 1"},
		{listing{mov(high, low)}, 0, "Broken in 1"},
		{listing{adr(low, high)}, 0, "Deep in 1"},
		{listing{adr(high, low)}, 0, "Broken in 1"},
		// MLd: slot B, the word, slot A.
		{listing{ld(low, high, 0)}, 0, "Deep in 1"},
		{listing{ld(high, low, 0)}, 0, "Broken in 1"},
		{listing{ld(high, 0, 0)}, 0, "Broken in 1"}, // no word
		{listing{ld(high, 0, 0)}, words4M, "Deep in 1"},
		{listing{ld(low, 0, 0)}, words4M, "Broken in 1"},
		// MSt: slot A, slot B, the word.
		{listing{st(low, 0, high)}, 0, "Broken in 1"},
		{listing{st(high, 0, low)}, 0, "Deep in 1"},
		{listing{st(0, 0, high)}, 0, "Deep in 1"}, // before it is seen that there is no word
		{listing{st(0, 0, low)}, 0, "Broken in 1"},
		// MOp: slot B, slot C, then D, then slot A, but where it is a panic no slot A.
		{listing{op(api.OAdd, 1, low, high, 0)}, 0, "Broken in 1"},
		{listing{op(api.OAdd, 1, high, low, 0)}, 0, "Deep in 1"},
		{listing{op(api.OAdd, low, 0, high, 0)}, 0, "Deep in 1"},
		{listing{op(api.OAdd, high, low, 0, 0)}, 0, "Broken in 1"},
		{listing{op(api.OAdd, high, 0, low, 0)}, 0, "Broken in 1"},
		{listing{op(13, 1, high, 0, 0)}, 0, "Deep in 1"},
		{listing{op(13, 1, 0, high, 0)}, 0, "Deep in 1"},
		{listing{op(13, high, 0, 0, 0)}, 0, "Broken in 1"},
		{listing{op(api.OAdd, high, 0, 0, 0)}, 0, "Deep in 1"},
		{listing{op(api.ODiv, high, 0, 0, 1), gives(0)}, 0, "Done in 2"},
		{listing{op(api.ODiv, low, 0, 0, 1), gives(0)}, 0, "Done in 2"},
		{listing{op(api.ONeg, low, 0, 0, 1), gives(0)}, least, "Done in 2 gives -9223372036854775808"},
		{listing{op(api.ONeg, low, high, low, 0)}, 0, "Deep in 1"},
		// MCallAt: slot A, slot B.
		{listing{callsAt(low, high, 0)}, 0, "Broken in 1"},
		{listing{callsAt(high, low, 0)}, 0, "Deep in 1"},
		// Where it goes on comes with the next step alone.
		{listing{calls(-1, high, 0)}, 0, "Deep in 1"},
		{listing{jz(high, -1)}, 0, "Deep in 1"},
		// MAlloc: slot B, what it says, room, slot A.
		{listing{alloc(low, high)}, 0, "Deep in 1"},
		{listing{alloc(high, low)}, 0, "Broken in 1"},
		{listing{alloc(high, 0)}, 0, "Broken in 1"},
		{listing{alloc(high, 0)}, words4M, "NoRoom in 1"},
		{listing{alloc(low, 0)}, words4M, "NoRoom in 1"},
		{listing{alloc(high, 0)}, 3, "Deep in 1"},
		{listing{alloc(low, 0)}, 3, "Broken in 1"},
		// MWait: slot A, the word.
		{listing{wait(high, 0)}, 0, "Deep in 1 order [0]"},
		{listing{wait(low, 0)}, 0, "Broken in 1 order [0]"},
		{listing{wait(0, 0)}, 0, "Broken in 1 order [0]"},
	})
}
