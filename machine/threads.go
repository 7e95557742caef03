package machine

import "holdfast/api"

// thread is a thread of a run. Its frame is told as one of its own words, from 0 on.
type thread struct {
	*machine
	number int
	stack  words
	frame  int
	calls  []call // those that it is in, the last one last
	at     int    // its next instruction
	panics bool   // it is in a panic
	aborts bool   // its next step ends the run
	ended  bool
}

// call is where a call was made, and the frame that comes back with its end. What it goes on at hangs on the instruction that made it.
type call struct {
	at, frame int
}

// begin begins a thread at an instruction, with a word in its slot 0.
func (m *machine) begin(at, given int) {
	t := &thread{machine: m, number: len(m.threads), at: at}
	t.stack.set(0, given)
	m.threads = append(m.threads, t)
}

// next chooses the thread that does the next step, and says whether that is a meeting.
func (m *machine) next() (*thread, bool) {
	for _, t := range m.threads {
		if !t.ended && !t.meets() {
			return t, false
		}
	}
	return m.picked(m.pick()), true
}

// pick uses up a pick.
func (m *machine) pick() int {
	if len(m.picks) == 0 {
		return 0
	}
	pick := m.picks[0]
	m.picks = m.picks[1:]
	return pick
}

// picked is the first thread that can do its meeting and is not below a pick, or else the first one that can.
func (m *machine) picked(pick int) *thread {
	var first *thread
	for _, t := range m.threads {
		if t.ended || !t.can() {
			continue
		}
		if t.number >= pick {
			return t
		}
		if first == nil {
			first = t
		}
	}
	return first
}

// due is a thread's next instruction, or nil if there is none.
func (t *thread) due() *api.Ins {
	if t.at < 0 || t.at >= len(t.code) {
		return nil
	}
	return &t.code[t.at]
}

// meets says whether a thread's next step is a meeting.
func (t *thread) meets() bool {
	if t.aborts {
		return true
	}
	in := t.due()
	return in != nil && (in.Op == api.MSync || in.Op == api.MWait || in.Op == api.MOut)
}

// can says whether a thread's next step, a meeting, can be done. To wait for a word that is none can be done too, as the run ends by it.
func (t *thread) can() bool {
	in := t.due()
	if t.aborts || in.Op != api.MWait || !t.has(in.A) {
		return true
	}
	at, ok := t.find(t.stack.get(t.frame+in.A), in.C)
	return !ok || at.get() != 0
}
