package emit

import "holdfast/api"

// hand writes code that works with the slots of a frame. Word and number are slots of its own; from top on nothing stands in the frame.
type hand struct {
	*maker
	word   int // what is on its way
	number int // what is reckoned with
	top    int
}

// spot is where a value stands: its first word is slot at, or, if by is a slot, so many words behind the address in that.
type spot struct {
	by, at int
}

const inFrame = -1

func slot(n int) spot {
	return spot{inFrame, n}
}

func (s spot) plus(words int) spot {
	return spot{s.by, s.at + words}
}

// fetch puts the first word of a spot into a slot.
func (h *hand) fetch(to int, from spot) {
	if from.by == inFrame {
		h.move(to, from.at)
		return
	}
	h.load(to, from.by, from.at)
}

// leave puts a slot's word at a spot.
func (h *hand) leave(to spot, from int) {
	if to.by == inFrame {
		h.move(to.at, from)
		return
	}
	h.store(to.by, to.at, from)
}

// leaveNumber puts a number at a spot.
func (h *hand) leaveNumber(to spot, n int) {
	if to.by == inFrame {
		h.set(to.at, n)
		return
	}
	h.set(h.number, n)
	h.store(to.by, to.at, h.number)
}

// plus reckons a slot and a number together.
func (h *hand) plus(to, from, n int) {
	if n == 0 {
		h.move(to, from)
		return
	}
	h.set(h.number, n)
	h.op(api.OAdd, to, from, h.number)
}

// address puts the address of a spot into a slot.
func (h *hand) address(to int, of spot) {
	if of.by == inFrame {
		h.adr(to, of.at)
		return
	}
	h.plus(to, of.by, of.at)
}

// change adds a number to the word at a spot, and keeps the sum in a slot.
func (h *hand) change(sum int, at spot, n int) {
	h.fetch(sum, at)
	h.plus(sum, sum, n)
	h.leave(at, sum)
}

// fewWords are copied one by one where they are needed; more are copied by a call.
const fewWords = 12

// copy copies words from one spot to another.
func (h *hand) copy(to, from spot, words int) {
	if words > fewWords {
		h.address(h.top, from)
		h.address(h.top+1, to)
		h.set(h.top+2, words)
		h.call(h.copies, h.top, never)
		return
	}
	for n := range words {
		switch {
		case to.by == inFrame:
			h.fetch(to.at+n, from.plus(n))
		case from.by == inFrame:
			h.leave(to.plus(n), from.at+n)
		default:
			h.fetch(h.word, from.plus(n))
			h.leave(to.plus(n), h.word)
		}
	}
}

// copyWords writes what copies many words: from the address in slot 0 to that in slot 1, as many as slot 2 says; eight at a time, as long as there are so many.
func (m *maker) copyWords() {
	const word, number, enough = 3, 4, 5
	const atOnce = 8
	many, few, done := m.newLabel(), m.newLabel(), m.newLabel()
	m.place(m.copies)
	m.set(number, atOnce)
	m.place(many)
	m.op(api.OGe, enough, 2, number)
	m.unless(enough, few)
	m.copyStep(word, number, atOnce)
	m.jump(many)
	m.place(few)
	m.set(number, 1)
	again := m.newLabel()
	m.place(again)
	m.unless(2, done)
	m.copyStep(word, number, 1)
	m.jump(again)
	m.place(done)
	m.ret()
}

// copyStep copies some words, and goes on by as many, which slot number says.
func (m *maker) copyStep(word, number, words int) {
	for n := range words {
		m.load(word, 0, n)
		m.store(1, n, word)
	}
	m.op(api.OAdd, 0, 0, number)
	m.op(api.OAdd, 1, 1, number)
	m.op(api.OSub, 2, 2, number)
}

// firstRoom is for how many elements a Vec gets room at first; later it gets twice as much.
const firstRoom = 4

// growVec writes what gives the Vec at the address in slot 0, which is full, more room; slot 1 says what an element weighs.
func (m *maker) growVec() {
	const old, room, size, made = 2, 3, 4, 5
	h := hand{maker: m, word: 6, number: 7, top: 8}
	first, some, done := h.newLabel(), h.newLabel(), h.newLabel()
	h.place(h.grows)
	h.load(old, 0, vecWords)
	h.load(room, 0, vecRoom)
	h.unless(room, first)
	h.op(api.OAdd, room, room, room)
	h.jump(some)
	h.place(first)
	h.set(room, firstRoom)
	h.place(some)
	h.op(api.OMul, size, room, 1)
	h.alloc(made, size)
	h.store(0, vecWords, made)
	h.store(0, vecRoom, room)
	h.unless(old, done)
	h.move(h.top, old)
	h.move(h.top+1, made)
	h.load(size, 0, vecCount)
	h.op(api.OMul, h.top+2, size, 1)
	h.call(h.copies, h.top, never)
	h.release(old)
	h.place(done)
	h.ret()
}
