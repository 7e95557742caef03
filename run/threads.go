package run

import "holdfast/api"

// thread is a thread of a run. Known has its own count at its own number.
type thread struct {
	*world
	number int
	calls  []*call
	known  known
	handle *thing // main has none
	begun  bool   // its first step is done
	panics bool
	aborts bool
	gave   value // by its first call; a panic gives nothing
	left   bool
	last   drops // of what it gave, when nobody has its handle
}

// top is the call that goes on.
func (t *thread) top() *call {
	return t.calls[len(t.calls)-1]
}

// dropping is where the thread's values are that are to be dropped next.
func (t *thread) dropping() *drops {
	if len(t.calls) > 0 {
		return &t.top().drops
	}
	return &t.last
}

// The sorts of a thread's next step.
const (
	alone   = iota // no meeting
	meeting        // one that can be done
	waiting        // one that cannot
	nothing        // there is no such step any more
)

// due says of which sort the next step is.
func (t *thread) due() int {
	switch d := t.dropping(); {
	case t.aborts || !t.begun:
		return meeting
	case len(d.list) > 0:
		return dueToDrop(d.next())
	case len(t.calls) > 0:
		return t.dueOf(&t.top().fn.Code[t.top().at])
	case t.left:
		return nothing
	}
	return meeting
}

// dueOf says of which sort an instruction is.
func (t *thread) dueOf(in *api.Instr) int {
	if in.Op == api.ISpawn {
		return meeting
	}
	if in.Op != api.ILib {
		return alone
	}
	switch in.N {
	case api.LArcClone, api.LSend, api.LSenderClone, api.LOut:
		return meeting
	case api.LLock, api.LRecv, api.LJoin:
		if t.waits(in) {
			return waiting
		}
		return meeting
	}
	return alone
}

// waits says whether a meeting cannot be done yet. What is not as it must be can be done, and is wrong.
func (t *thread) waits(in *api.Instr) bool {
	if in.N == api.LJoin {
		h, ok := t.peek(in.Args[0]).(owner)
		return ok && h.leads.open
	}
	switch v := t.peekAt(in.Args[0]).(type) {
	case cell:
		return in.N == api.LLock && v.kind == api.LyMutex && v.out != 0
	case owner:
		return in.N == api.LRecv && v.kind == api.LyReceiver && len(partsOf(v.leads.holds)) == 0 && v.leads.owners > 0
	}
	return false
}

// step does the next step.
func (t *thread) step() {
	switch d := t.dropping(); {
	case t.aborts:
		panic(ending{how: api.Aborted})
	case !t.begun:
		t.begun = true
	case len(d.list) > 0:
		t.drop(d)
	case len(t.calls) > 0:
		c := t.top()
		t.instruct(c, &c.fn.Code[c.at])
	default:
		t.leave()
	}
}

// leave is the last step of a thread, but for the dropping of what nobody will ask for.
func (t *thread) leave() {
	t.left = true
	if t.handle == nil {
		return
	}
	t.meetAt(&t.handle.known)
	if t.handle.owners == 0 {
		t.end(t.handle)
		if t.gave != nil {
			t.last.ahead(t.gave)
		}
		return
	}
	t.handle.open = false
	if t.gave != nil {
		t.handle.holds = t.gave
	}
}

// beginPanic begins a panic; within another one it is the end of all.
func (t *thread) beginPanic() {
	if t.panics {
		t.aborts = true
		return
	}
	t.panics = true
	t.top().clean()
}

// clean lets a call go on where it ends its locals and leaves.
func (c *call) clean() {
	c.at = c.fn.Clean
}

// leaveCall ends the call that goes on, and answers it.
func (t *thread) leaveCall() *call {
	c := t.top()
	t.calls = t.calls[:len(t.calls)-1]
	return c
}

// resume lets a panic leave the call.
func (t *thread) resume() {
	switch c := t.leaveCall(); {
	case c.isDrop:
		t.dropping().panicked = true
	case len(t.calls) > 0:
		t.top().clean()
	}
}

// spawn begins a thread that runs a function with a tuple, and gives its handle.
func (t *thread) spawn(fn int, with value) value {
	if len(t.threads) == api.MaxThreads {
		panic(ending{how: api.Full})
	}
	handle := t.onHeap(hole{})
	handle.owners, handle.open = 1, true
	other := &thread{world: t.world, number: len(t.threads), known: t.known, handle: handle}
	other.calls = []*call{t.newCall(fn, with)}
	t.threads = append(t.threads, other)
	t.known[t.number]++
	other.known[other.number]++
	return owner{api.LyHandle, handle}
}
