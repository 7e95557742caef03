package machine

import (
	"fmt"
	"math"
	"reflect"
	"slices"
	"testing"

	"holdfast/api"
)

const (
	words4M = api.HeapWords // of the heap and of each stack
	most    = math.MaxInt64
	least   = math.MinInt64
)

func set(a, b int) api.Ins        { return api.Ins{Op: api.MSet, A: a, B: b} }
func mov(a, b int) api.Ins        { return api.Ins{Op: api.MMov, A: a, B: b} }
func adr(a, b int) api.Ins        { return api.Ins{Op: api.MAdr, A: a, B: b} }
func ld(a, b, c int) api.Ins      { return api.Ins{Op: api.MLd, A: a, B: b, C: c} }
func st(a, c, b int) api.Ins      { return api.Ins{Op: api.MSt, A: a, B: b, C: c} } // the word at a + c = b
func jmp(e int) api.Ins           { return api.Ins{Op: api.MJmp, E: e} }
func jz(a, e int) api.Ins         { return api.Ins{Op: api.MJz, A: a, E: e} }
func calls(a, b, e int) api.Ins   { return api.Ins{Op: api.MCall, A: a, B: b, E: e} }
func callsAt(a, b, e int) api.Ins { return api.Ins{Op: api.MCallAt, A: a, B: b, E: e} }
func ret() api.Ins                { return api.Ins{Op: api.MRet} }
func resume() api.Ins             { return api.Ins{Op: api.MResume} }
func panics(e int) api.Ins        { return api.Ins{Op: api.MPanic, E: e} }
func alloc(a, b int) api.Ins      { return api.Ins{Op: api.MAlloc, A: a, B: b} }
func free(a int) api.Ins          { return api.Ins{Op: api.MFree, A: a} }
func spawn(a, b int) api.Ins      { return api.Ins{Op: api.MSpawn, A: a, B: b} }
func syncs() api.Ins              { return api.Ins{Op: api.MSync} }
func wait(a, c int) api.Ins       { return api.Ins{Op: api.MWait, A: a, C: c} }
func tells(a int) api.Ins         { return api.Ins{Op: api.MOut, A: a} }
func stop() api.Ins               { return api.Ins{Op: api.MStop} }
func gives(a int) api.Ins         { return api.Ins{Op: api.MStop, A: a, D: 1} }
func fails() api.Ins              { return api.Ins{Op: api.MStop, D: 2} }

// op is slot a = slot b op slot c; by a panic on at e.
func op(d, a, b, c, e int) api.Ins {
	return api.Ins{Op: api.MOp, A: a, B: b, C: c, D: d, E: e}
}

type listing []api.Ins

func (l listing) then(more ...api.Ins) listing { return append(slices.Clone(l), more...) }

// tell writes an outcome in short.
func tell(o api.Outcome) string {
	how := []string{"Going", "Done", "Failed", "Stuck", "Aborted", "Wrong", "Full", "NoRoom", "Deep", "Broken"}
	text := fmt.Sprintf("%s in %d", how[o.How], o.Steps)
	if o.Value != 0 {
		text += fmt.Sprintf(" gives %d", o.Value)
	}
	if len(o.Outs) > 0 {
		text += fmt.Sprintf(" outs %v", o.Outs)
	}
	if len(o.Order) > 0 {
		text += fmt.Sprintf(" order %v", o.Order)
	}
	if o.Left != 0 {
		text += fmt.Sprintf(" left %d", o.Left)
	}
	if o.What != 0 || o.Loose != 0 {
		text += fmt.Sprintf(" what %d loose %d", o.What, o.Loose)
	}
	return text
}

// held runs code; what it answers must be what the oracle does, also with less fuel. Nothing that it is given may change.
func held(t *testing.T, code []api.Ins, arg, fuel int, picks []int) api.Outcome {
	t.Helper()
	codeWas, picksWere := slices.Clone(code), slices.Clone(picks)
	got := Run(code, arg, fuel, picks)
	if want := expected(code, arg, fuel, picks); tell(got) != tell(want) {
		t.Errorf("%s, not %s: %v arg %d fuel %d picks %v", tell(got), tell(want), code, arg, fuel, picks)
	}
	if !reflect.DeepEqual(code, codeWas) || !slices.Equal(picks, picksWere) {
		t.Errorf("%v %v have become %v %v", codeWas, picksWere, code, picks)
	}
	return got
}

// sample is code, with what must come of it.
type sample struct {
	code listing
	arg  int
	want string
}

// hold runs samples with no picks and steps enough, then with as many as are needed and one less.
func hold(t *testing.T, samples []sample) {
	t.Helper()
	for i, s := range samples {
		o := held(t, s.code, s.arg, 10000, nil)
		if tell(o) != s.want {
			t.Errorf("%d: %s, not %s: %v arg %d", i, tell(o), s.want, s.code, s.arg)
		}
		if same := held(t, s.code, s.arg, o.Steps, nil); tell(same) != tell(o) {
			t.Errorf("%d: %s with just enough steps, not %s", i, tell(same), tell(o))
		}
		if o.Steps == 0 {
			continue
		}
		if less := held(t, s.code, s.arg, o.Steps-1, nil); less.How != api.Going || less.Steps != o.Steps-1 || less.Left != 0 {
			t.Errorf("%d: %s with a step too few", i, tell(less))
		}
	}
}
