package emit

import (
	"fmt"
	"math/rand"
	"testing"

	"holdfast/api"
	"holdfast/holdfast"
)

// P39: made texts of owners, with many arguments and picks.
func TestMade(t *testing.T) {
	s, r := seen{}, rand.New(rand.NewSource(1))
	for seed := range int64(300) {
		text := made(seed)
		p, fault := holdfast.Load(text)
		s[fmt.Sprint("fault ", fault.Kind)]++
		if fault.Kind != api.OK {
			continue
		}
		code, fault := Emit(p)
		if fault != tooWide(p) {
			t.Errorf("%s: %v, not %v", text, fault, tooWide(p))
		}
		if fault.Kind != api.OK {
			s["too wide"]++
			continue
		}
		for arg := range 8 {
			s.hold(t, text, p, code, arg, randomPicks(r))
		}
	}
	s.enough(t, 10, "fault 0", "Done", "Failed", "Aborted", "threads", "held")
}
