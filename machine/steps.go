package machine

import (
	"holdfast/api"
	"holdfast/reckon"
)

// step does a thread's next instruction. It is behind that one already while it does so.
func (t *thread) step() {
	if t.aborts {
		panic(ending(api.Aborted))
	}
	in := t.due()
	if in == nil {
		panic(ending(api.Broken))
	}
	t.at++
	switch in.Op {
	case api.MSet:
		t.write(in.A, in.B)
	case api.MMov:
		t.write(in.A, t.read(in.B))
	case api.MAdr:
		t.write(in.A, t.address(in.B))
	case api.MLd:
		t.write(in.A, t.word(t.read(in.B), in.C).get())
	case api.MSt:
		a, b := t.read(in.A), t.read(in.B)
		t.word(a, in.C).set(b)
	case api.MOp:
		t.reckon(in)
	case api.MAlloc:
		t.write(in.A, t.alloc(t.read(in.B)))
	case api.MFree:
		t.free(t.read(in.A))
	case api.MOut:
		t.outs = append(t.outs, t.read(in.A))
	case api.MWait:
		t.word(t.read(in.A), in.C)
	case api.MSync:
	default:
		t.turn(in)
	}
}

// turn does an instruction by which a thread goes on elsewhere, begins, or ends.
func (t *thread) turn(in *api.Ins) {
	switch in.Op {
	case api.MJmp:
		t.at = in.E
	case api.MJz:
		if t.read(in.A) == 0 {
			t.at = in.E
		}
	case api.MCall:
		t.enter(in.A, in.B)
	case api.MCallAt:
		t.enter(t.read(in.A), in.B)
	case api.MRet:
		t.at = t.leave() + 1
	case api.MResume:
		t.at = t.code[t.leave()].E
	case api.MPanic:
		t.aborts = t.panics
		t.panics = true
		t.at = in.E
	case api.MSpawn:
		t.spawn(in.A, t.read(in.B))
	case api.MStop:
		t.stop(in)
	default:
		panic(ending(api.Broken))
	}
}

// reckon does an MOp. Where it is a panic nothing is written, so that slot A may be any.
func (t *thread) reckon(in *api.Ins) {
	b, c := t.read(in.B), 0
	if in.D != api.ONeg && in.D != api.ONot {
		c = t.read(in.C)
	}
	if in.D < api.OAdd || in.D > api.ONot {
		panic(ending(api.Broken))
	}
	word, ok := result(in.D, b, c)
	if !ok {
		t.at = in.E
		return
	}
	t.write(in.A, word)
}

// result is what an operator makes of two words, or of the first one alone. ONot knows no bools here: it asks whether a word is 0.
func result(op, b, c int) (int, bool) {
	switch op {
	case api.ONeg:
		return reckon.Negative(b)
	case api.ONot:
		return reckon.Two(api.OEq, b, 0)
	}
	return reckon.Two(op, b, c)
}

// enter begins a call of what stands at a number, with its frame at a slot.
func (t *thread) enter(at, slot int) {
	frame := t.slot(slot)
	t.calls = append(t.calls, call{at: t.at - 1, frame: t.frame})
	t.frame, t.at = frame, at
}

// leave ends the last call, and answers which instruction made it.
func (t *thread) leave() int {
	last := len(t.calls) - 1
	if last < 0 {
		panic(ending(api.Broken))
	}
	over := t.calls[last]
	t.calls = t.calls[:last]
	t.frame = over.frame
	return over.at
}

// alloc makes a block of so many words, and answers its first one.
func (m *machine) alloc(size int) int {
	if size < 1 {
		panic(ending(api.Broken))
	}
	at, ok := m.blocks.Alloc(size)
	if !ok {
		panic(ending(api.NoRoom))
	}
	return at
}

func (m *machine) free(at int) {
	if !m.blocks.Free(at) {
		panic(ending(api.Broken))
	}
}

func (m *machine) spawn(at, given int) {
	if len(m.threads) == api.MaxThreads {
		panic(ending(api.Full))
	}
	m.begin(at, given)
}

// stop ends a thread. Whichever thread it is: D says whether it speaks for main.
func (t *thread) stop(in *api.Ins) {
	switch in.D {
	case 1:
		t.value = t.read(in.A)
	case 2:
		t.failed = true
	}
	t.ended = true
}
