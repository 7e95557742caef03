package machine

import (
	"math/big"

	"holdfast/api"
)

// reads are the slots that an instruction reads, in order; of those marked by true the address is meant.
func reads(in api.Ins) (slots []int, address []bool) {
	switch in.Op {
	case api.MMov, api.MLd, api.MAlloc, api.MSpawn:
		return []int{in.B}, []bool{false}
	case api.MAdr, api.MCall:
		return []int{in.B}, []bool{true}
	case api.MSt:
		return []int{in.A, in.B}, []bool{false, false}
	case api.MCallAt:
		return []int{in.A, in.B}, []bool{false, true}
	case api.MJz, api.MFree, api.MWait, api.MOut:
		return []int{in.A}, []bool{false}
	case api.MOp:
		if in.D == api.ONeg || in.D == api.ONot {
			return []int{in.B}, []bool{false}
		}
		return []int{in.B, in.C}, []bool{false, false}
	case api.MStop:
		if in.D == 1 {
			return []int{in.A}, []bool{false}
		}
	}
	return nil, nil
}

// writes says whether an instruction writes slot A.
func writes(op int) bool {
	return op == api.MSet || op == api.MMov || op == api.MAdr || op == api.MLd || op == api.MOp || op == api.MAlloc
}

// step answers how the run ends by it, or none.
func (o *oracle) step(w *walker) int {
	if w.dies {
		return api.Aborted
	}
	if o.op(w) < api.MSet || o.op(w) > api.MStop {
		return api.Broken
	}
	in := o.code[w.at]
	slots, address := reads(in)
	var words []int
	for i, k := range slots {
		at, how := o.slot(w, k)
		if how != none {
			return how
		}
		if !address[i] {
			at = o.words[at]
		}
		words = append(words, at)
	}
	done := o.does(w, in, words)
	if done.how != none {
		return done.how
	}
	if writes(in.Op) && !done.panics {
		at, how := o.slot(w, in.A)
		if how != none {
			return how
		}
		o.words[at] = done.word
	}
	w.at = done.to
	return none
}

// effect is what an instruction comes to: what is to be written, unless it is a panic; where the thread goes on; how the run ends.
type effect struct {
	word, to, how int
	panics        bool
}

func (o *oracle) does(w *walker, in api.Ins, words []int) (e effect) {
	e.to = w.at + 1
	switch in.Op {
	case api.MSet:
		e.word = in.B
	case api.MMov, api.MAdr:
		e.word = words[0]
	case api.MLd, api.MWait:
		at, end := o.word(words[0], in.C)
		e.word, e.how = o.words[at], end
	case api.MSt:
		at, end := o.word(words[0], in.C)
		if end == none {
			o.words[at] = words[1]
		}
		e.how = end
	case api.MOp:
		if in.D < api.OAdd || in.D > api.ONot {
			e.how = api.Broken
			break
		}
		word, ok := reckoned(in.D, words[0], words[len(words)-1])
		if e.word, e.panics = word, !ok; e.panics {
			e.to = in.E
		}
	case api.MAlloc:
		if words[0] < 1 {
			e.how = api.Broken
			break
		}
		at, ok := o.alloc(words[0])
		if e.word = at; !ok {
			e.how = api.NoRoom
		}
	case api.MFree:
		if !o.free(words[0]) {
			e.how = api.Broken
		}
	case api.MOut:
		o.out.Outs = append(o.out.Outs, words[0])
	default:
		e.to, e.how = o.turns(w, in, words)
	}
	return e
}

// turns is what an instruction does that is about where threads go.
func (o *oracle) turns(w *walker, in api.Ins, words []int) (to, how int) {
	to = w.at + 1
	switch in.Op {
	case api.MJmp:
		to = in.E
	case api.MJz:
		if words[0] == 0 {
			to = in.E
		}
	case api.MCall:
		w.calls = append(w.calls, [3]int{w.frame, to, in.E})
		w.frame, to = words[0], in.A
	case api.MCallAt:
		w.calls = append(w.calls, [3]int{w.frame, to, in.E})
		w.frame, to = words[1], words[0]
	case api.MRet, api.MResume:
		if len(w.calls) == 0 {
			return to, api.Broken
		}
		last := w.calls[len(w.calls)-1]
		w.calls = w.calls[:len(w.calls)-1]
		w.frame, to = last[0], last[1]
		if in.Op == api.MResume {
			to = last[2]
		}
	case api.MPanic:
		if w.inPanic {
			w.dies = true
		}
		w.inPanic, to = true, in.E
	case api.MSpawn:
		if len(o.begun) >= api.MaxThreads {
			return to, api.Full
		}
		o.begin(in.A, words[0])
	case api.MStop:
		w.hasEnded = true
		if in.D == 1 {
			o.out.Value = words[0]
		}
		if in.D == 2 {
			o.failed = true
		}
	}
	return to, none
}

// reckoned reckons with numbers of any size, and looks whether what comes out has 64 bits.
func reckoned(op, a, b int) (int, bool) {
	x, y, z := big.NewInt(int64(a)), big.NewInt(int64(b)), new(big.Int)
	yes := func(holds bool) {
		if holds {
			z.SetInt64(1)
		}
	}
	switch op {
	case api.OAdd:
		z.Add(x, y)
	case api.OSub:
		z.Sub(x, y)
	case api.OMul:
		z.Mul(x, y)
	case api.ODiv, api.ORem:
		if b == 0 || !z.Quo(x, y).IsInt64() {
			return 0, false
		}
		if op == api.ORem {
			z.Rem(x, y)
		}
	case api.OEq:
		yes(x.Cmp(y) == 0)
	case api.ONe:
		yes(x.Cmp(y) != 0)
	case api.OLt:
		yes(x.Cmp(y) < 0)
	case api.OLe:
		yes(x.Cmp(y) <= 0)
	case api.OGt:
		yes(x.Cmp(y) > 0)
	case api.OGe:
		yes(x.Cmp(y) >= 0)
	case api.ONeg:
		z.Neg(x)
	case api.ONot:
		yes(x.Sign() == 0)
	}
	return int(z.Int64()), z.IsInt64()
}
