package machine

import (
	"math/big"
	"slices"

	"holdfast/api"
)

// oracle goes through the chapter sentence by sentence: addresses are sums of any size, words are a map, blocks a list, and what an instruction reads and writes is told ahead of what it does.
type oracle struct {
	code   []api.Ins
	picks  []int
	fuel   int
	words  map[int]int
	blocks []area
	begun  []*walker
	failed bool
	out    api.Outcome
}

// area is addresses next to each other.
type area struct {
	first, size int
}

func (a area) has(at *big.Int) bool {
	first, behind := big.NewInt(int64(a.first)), big.NewInt(int64(a.first+a.size))
	return at.Cmp(first) >= 0 && at.Cmp(behind) < 0
}

// walker is a thread. Its calls: the frame, where it goes on, where by a panic.
type walker struct {
	number, frame, at       int
	calls                   [][3]int
	inPanic, dies, hasEnded bool
}

// none says that nothing has ended the run.
const none = api.Going

func sum(a, b int) *big.Int {
	return new(big.Int).Add(big.NewInt(int64(a)), big.NewInt(int64(b)))
}

func expected(code []api.Ins, arg, fuel int, picks []int) api.Outcome {
	o := &oracle{code: code, picks: picks, fuel: min(max(fuel, 0), api.MaxMachine), words: map[int]int{}}
	o.begin(0, arg)
	for o.goesOn() {
	}
	if o.out.How == api.Done || o.out.How == api.Failed {
		o.out.Left = len(o.blocks)
	}
	return o.out
}

func (o *oracle) begin(at, word int) {
	w := &walker{number: len(o.begun), at: at}
	w.frame = o.stack(w.number).first
	o.begun = append(o.begun, w)
	o.words[w.frame] = word
}

func (o *oracle) stack(thread int) area {
	return area{(thread + 1) * api.HeapWords, api.HeapWords}
}

// goesOn does a step, and says whether the run goes on.
func (o *oracle) goesOn() bool {
	w, meeting := o.turn()
	switch {
	case w == nil:
		o.out.How = o.rest()
		return false
	case o.out.Steps >= o.fuel:
		o.out.How = api.Going
		return false
	}
	o.out.Steps++
	if meeting {
		o.out.Order = append(o.out.Order, w.number)
	}
	o.out.How = o.step(w)
	return o.out.How == none
}

func (o *oracle) rest() int {
	for _, w := range o.begun {
		if !w.hasEnded {
			return api.Stuck
		}
	}
	if o.failed {
		return api.Failed
	}
	return api.Done
}

// turn is the thread whose turn it is.
func (o *oracle) turn() (*walker, bool) {
	var can []*walker
	for _, w := range o.begun {
		if w.hasEnded {
			continue
		}
		if !o.meeting(w) {
			return w, false
		}
		if o.possible(w) {
			can = append(can, w)
		}
	}
	if len(can) == 0 {
		return nil, false
	}
	pick := 0
	if len(o.picks) > 0 {
		pick = o.picks[0]
		o.picks = o.picks[1:]
	}
	for _, w := range can {
		if w.number >= pick {
			return w, true
		}
	}
	return can[0], true
}

func (o *oracle) op(w *walker) int {
	if w.at >= 0 && w.at < len(o.code) {
		return o.code[w.at].Op
	}
	return -1
}

func (o *oracle) meeting(w *walker) bool {
	return w.dies || slices.Contains([]int{api.MSync, api.MWait, api.MOut}, o.op(w))
}

func (o *oracle) possible(w *walker) bool {
	if w.dies || o.op(w) != api.MWait {
		return true
	}
	in := o.code[w.at]
	slot, how := o.slot(w, in.A)
	if how != none {
		return true
	}
	at, how := o.word(o.words[slot], in.C)
	return how != none || o.words[at] != 0
}

// slot is the address of a slot.
func (o *oracle) slot(w *walker, k int) (int, int) {
	if k < 0 {
		return 0, api.Broken
	}
	at := sum(w.frame, k)
	if !o.stack(w.number).has(at) {
		return 0, api.Deep
	}
	return int(at.Int64()), none
}

// word is the address a + c.
func (o *oracle) word(a, c int) (int, int) {
	at := sum(a, c)
	for _, b := range o.blocks {
		if b.has(at) {
			return int(at.Int64()), none
		}
	}
	for _, w := range o.begun {
		if o.stack(w.number).has(at) {
			return int(at.Int64()), none
		}
	}
	return 0, api.Broken
}

// alloc looks at the first word and at those right behind blocks: one of them is the least place.
func (o *oracle) alloc(n int) (int, bool) {
	places := []int{1}
	for _, b := range o.blocks {
		places = append(places, b.first+b.size)
	}
	slices.Sort(places)
	for _, at := range places {
		free := sum(at, n).Cmp(big.NewInt(api.HeapWords)) <= 0
		for _, b := range o.blocks {
			free = free && (b.first >= at+n || b.first+b.size <= at)
		}
		if free {
			o.blocks = append(o.blocks, area{at, n})
			return at, true
		}
	}
	return 0, false
}

func (o *oracle) free(at int) bool {
	for i, b := range o.blocks {
		if b.first == at {
			o.blocks = slices.Delete(o.blocks, i, i+1)
			return true
		}
	}
	return false
}
