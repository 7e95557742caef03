package emit

import "holdfast/api"

// label is a place in the code, which may be told later than it is used.
type label int

// never is the label of an instruction that goes on somewhere only by a panic that cannot come.
const never label = 0

// The parts of an instruction that a label may stand for.
const (
	partA = iota
	partB
	partE
)

// use is where a label stands for a number.
type use struct {
	at, part int
	of       label
}

// text is code that is being written.
type text struct {
	code   []api.Ins
	places []int // of each label
	uses   []use
}

func (t *text) newLabel() label {
	t.places = append(t.places, 0)
	return label(len(t.places) - 1)
}

// place says that a label stands for the next instruction.
func (t *text) place(l label) {
	t.places[l] = len(t.code)
}

func (t *text) put(in api.Ins) {
	t.code = append(t.code, in)
}

// putAt adds an instruction of which a part is a label.
func (t *text) putAt(in api.Ins, part int, l label) {
	t.uses = append(t.uses, use{len(t.code), part, l})
	t.put(in)
}

// settled is the code with numbers in the place of labels.
func (t *text) settled() []api.Ins {
	for _, u := range t.uses {
		in, n := &t.code[u.at], t.places[u.of]
		switch u.part {
		case partA:
			in.A = n
		case partB:
			in.B = n
		case partE:
			in.E = n
		}
	}
	return t.code
}

func (t *text) set(a, n int)         { t.put(api.Ins{Op: api.MSet, A: a, B: n}) }
func (t *text) move(a, b int)        { t.put(api.Ins{Op: api.MMov, A: a, B: b}) }
func (t *text) adr(a, b int)         { t.put(api.Ins{Op: api.MAdr, A: a, B: b}) }
func (t *text) load(a, b, c int)     { t.put(api.Ins{Op: api.MLd, A: a, B: b, C: c}) }
func (t *text) store(a, c, b int)    { t.put(api.Ins{Op: api.MSt, A: a, B: b, C: c}) }
func (t *text) op(n, a, b, c int)    { t.put(api.Ins{Op: api.MOp, A: a, B: b, C: c, D: n}) }
func (t *text) alloc(a, b int)       { t.put(api.Ins{Op: api.MAlloc, A: a, B: b}) }
func (t *text) release(a int)        { t.put(api.Ins{Op: api.MFree, A: a}) }
func (t *text) sync()                { t.put(api.Ins{Op: api.MSync}) }
func (t *text) wait(a, c int)        { t.put(api.Ins{Op: api.MWait, A: a, C: c}) }
func (t *text) ret()                 { t.put(api.Ins{Op: api.MRet}) }
func (t *text) resume()              { t.put(api.Ins{Op: api.MResume}) }
func (t *text) stop(a, d int)        { t.put(api.Ins{Op: api.MStop, A: a, D: d}) }
func (t *text) jump(l label)         { t.putAt(api.Ins{Op: api.MJmp}, partE, l) }
func (t *text) panics(l label)       { t.putAt(api.Ins{Op: api.MPanic}, partE, l) }
func (t *text) setAt(a int, l label) { t.putAt(api.Ins{Op: api.MSet, A: a}, partB, l) }

// unless goes on at a label if a slot is 0.
func (t *text) unless(a int, l label) {
	t.putAt(api.Ins{Op: api.MJz, A: a}, partE, l)
}

// call calls what stands at a label, with its frame at a slot; a panic that leaves it goes on at another label.
func (t *text) call(l label, frame int, onPanic label) {
	t.uses = append(t.uses, use{len(t.code), partA, l})
	t.putAt(api.Ins{Op: api.MCall, B: frame}, partE, onPanic)
}

// callAt likewise calls what a slot says.
func (t *text) callAt(a, frame int, onPanic label) {
	t.putAt(api.Ins{Op: api.MCallAt, A: a, B: frame}, partE, onPanic)
}
