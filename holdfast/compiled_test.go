package holdfast

import (
	"math/rand"
	"slices"
	"testing"

	"holdfast/api"
	"holdfast/emit"
	"holdfast/machine"
	"holdfast/run"
)

// compiled holds the runs of a text's code against its own (P39), and says whether the text passes.
func (s seen) compiled(t *testing.T, r *rand.Rand, text string, args ...int) bool {
	t.Helper()
	p, fault := Load(text)
	if fault.Kind != api.OK {
		return false
	}
	code, fault := emit.Emit(p)
	if fault.Kind != api.OK {
		t.Errorf("%s: %v", text, fault)
	}
	for _, arg := range args {
		picks := randomPicks(r)
		a := run.Run(p, arg, api.MaxFuel, picks, false)
		b := machine.Run(code, arg, api.MaxMachine, picks)
		s[hows[a.How]]++
		switch {
		case a.How == api.Going && b.How != api.Broken:
		case a.How != b.How || a.Value != b.Value || !slices.Equal(a.Outs, b.Outs) || !slices.Equal(a.Order, b.Order) || (a.Left == 0) != (b.Left == 0):
			t.Errorf("%s: of %d, picks %v: %+v, not %+v", text, arg, picks, b, a)
		default:
			s["held"]++
		}
	}
	return true
}

// P39: the texts of this package's tests, and those made of them, do the same when they are compiled. (All of these are small enough, so that none is cut off.)
func TestCompiled(t *testing.T) {
	s, r := seen{}, rand.New(rand.NewSource(7))
	var texts []string
	for _, list := range [][]written{plainTexts, threadTexts} {
		for _, w := range list {
			texts = append(texts, whole(w.text))
			s.compiled(t, r, whole(w.text), -1, 0, 1, 2, 3, 4, 5, 9, 12)
		}
	}
	for range 1500 {
		text := changed(r, texts[r.Intn(len(texts))], 1+r.Intn(3))
		if s.compiled(t, r, text, r.Intn(10), r.Intn(10)) {
			texts = append(texts, text)
		}
	}
	for seed := range int64(6) {
		s.compiled(t, r, grown(seed+100, 35), 0, 1, 2, 3, 4, 5, 6)
	}
	for seed := range int64(600) {
		s.compiled(t, r, escaping(seed+5000), r.Intn(6))
	}
	s.enough(t, 4, "Done", "Failed", "Stuck", "Aborted", "Full", "held")
}
