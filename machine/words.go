package machine

import "holdfast/api"

const pageSize = 1024

type page [pageSize]int

// words are as many words as the heap or a stack has, all of them 0 at first. Pages to which nothing has been written are not there: of most stacks but a little is used.
type words struct {
	pages []*page
}

func (w *words) get(at int) int {
	if n := at / pageSize; n < len(w.pages) && w.pages[n] != nil {
		return w.pages[n][at%pageSize]
	}
	return 0
}

func (w *words) set(at, word int) {
	n := at / pageSize
	for len(w.pages) <= n {
		w.pages = append(w.pages, nil)
	}
	if w.pages[n] == nil {
		w.pages[n] = new(page)
	}
	w.pages[n][at%pageSize] = word
}

// spot is a word: the words that it is one of, and which of these.
type spot struct {
	of *words
	at int
}

func (s spot) get() int     { return s.of.get(s.at) }
func (s spot) set(word int) { s.of.set(s.at, word) }

// find is the word at a + c, and whether there is one.
func (m *machine) find(a, c int) (spot, bool) {
	// Of two numbers below 0 the sum may be none, which would look like an address; all other sums that are none look like numbers below 0.
	if a < 0 && c < 0 || a+c < 1 {
		return spot{}, false
	}
	part, at := (a+c)/api.HeapWords, (a+c)%api.HeapWords
	if part == 0 {
		return spot{&m.words, at}, m.blocks.Has(at)
	}
	if part > len(m.threads) {
		return spot{}, false
	}
	return spot{&m.threads[part-1].stack, at}, true
}

// word is the word at a + c, without which the run ends.
func (m *machine) word(a, c int) spot {
	at, ok := m.find(a, c)
	if !ok {
		panic(ending(api.Broken))
	}
	return at
}

// has says whether a slot is one of a thread's stack.
func (t *thread) has(slot int) bool {
	return slot >= 0 && slot < api.HeapWords-t.frame
}

// slot is which word of a thread's stack a slot is, without which the run ends.
func (t *thread) slot(k int) int {
	if k < 0 {
		panic(ending(api.Broken))
	}
	if !t.has(k) {
		panic(ending(api.Deep))
	}
	return t.frame + k
}

func (t *thread) read(slot int) int {
	return t.stack.get(t.slot(slot))
}

func (t *thread) write(slot, word int) {
	t.stack.set(t.slot(slot), word)
}

// address is the address of a slot.
func (t *thread) address(slot int) int {
	return (t.number+1)*api.HeapWords + t.slot(slot)
}
