package run

import (
	"slices"

	"holdfast/api"
)

// drops are values that are to be dropped before something goes on: the first one stands last.
type drops struct {
	list []value
	// A panic has left a Drop that was called for one of them.
	panicked bool
}

// ahead puts values ahead of all others, those that something is to be done for.
func (d *drops) ahead(values ...value) {
	for _, v := range slices.Backward(values) {
		if v.owns() {
			d.list = append(d.list, v)
		}
	}
}

func (d *drops) next() value {
	return d.list[len(d.list)-1]
}

// dueToDrop says of which sort the step is in which a value is dropped.
func dueToDrop(v value) int {
	switch v := v.(type) {
	case owner:
		switch v.kind {
		case api.LyArc, api.LySender, api.LyReceiver, api.LyHandle:
			return meeting
		}
	case guard:
		if v.kind == api.LyLock {
			return meeting
		}
	}
	return alone
}

// dropThen lets a call go on behind its instruction, when a value has been dropped.
func (c *call) dropThen(v value) {
	c.ahead(v)
	c.goOn()
}

// goOn lets a call go on when nothing is left to be dropped.
func (c *call) goOn() {
	if len(c.list) > 0 {
		return
	}
	c.at++
	if c.panicked {
		c.panicked = false
		c.clean()
	}
}

// drop is a step of dropping.
func (t *thread) drop(d *drops) {
	first := d.next()
	d.list = d.list[:len(d.list)-1]
	switch v := first.(type) {
	case data:
		if v.drop >= 0 {
			t.callDrop(d, v)
			return
		}
		d.ahead(v.parts...)
	case rest:
		d.ahead(partsOf(t.ended(v.of))...)
	case closure:
		d.ahead(t.ended(v.leads))
	case owner:
		t.dropOwner(d, v)
	case guard:
		t.dropGuard(v)
	default:
		d.ahead(partsOf(v)...)
	}
	if len(t.calls) > 0 {
		t.top().goOn()
	}
}

// callDrop calls the Drop of data. The rest of it is done when that has returned, or a panic has left it.
func (t *thread) callDrop(d *drops, v data) {
	held := newThing(v)
	d.ahead(rest{held})
	c := t.newCall(v.drop, refer{spot{at: held, by: t.newTag(nil, true, false)}})
	c.isDrop = true
	t.calls = append(t.calls, c)
}

// ended touches a thing, ends it, and answers what it held.
func (t *thread) ended(x *thing) value {
	t.touch(whole(x), true, plain)
	t.end(x)
	return x.holds
}

func (t *thread) dropOwner(d *drops, v owner) {
	x := v.leads
	switch v.kind {
	case api.LyBox, api.LyVec:
		d.ahead(t.ended(x))
	case api.LyRc:
		t.touch(whole(x).head(), true, inner)
		t.dropShare(d, x)
	case api.LyArc:
		t.meetAt(&x.known)
		t.dropShare(d, x)
	case api.LySender:
		t.meetAt(&x.known)
		x.owners--
		t.endChannel(x)
	case api.LyReceiver:
		t.meetAt(&x.known)
		x.open = false
		d.ahead(partsOf(x.holds)...)
		x.holds = tupleOf()
		t.endChannel(x)
	case api.LyHandle:
		t.meetAt(&x.known)
		t.dropHandle(d, x)
	}
}

// dropShare takes an owner from the thing of an Rc or Arc.
func (t *thread) dropShare(d *drops, x *thing) {
	x.owners--
	if x.owners == 0 {
		d.ahead(t.ended(x))
	}
}

// endChannel ends a channel that nobody has any more.
func (t *thread) endChannel(x *thing) {
	if x.owners == 0 && !x.open {
		t.end(x)
	}
}

func (t *thread) dropHandle(d *drops, x *thing) {
	if x.open {
		x.owners = 0
		return
	}
	t.end(x)
	d.ahead(x.holds)
}

func (t *thread) dropGuard(g guard) {
	c := asked[cell](g.stands())
	if c.kind == api.LyCell {
		wrong(api.WrongForm)
	}
	way := inner
	if c.kind == api.LyMutex {
		way = atomic
	}
	t.touch(g.head(), true, way)
	switch g.kind {
	case api.LyRef:
		c.out--
	case api.LyRefMut:
		c.out = 0
	case api.LyLock:
		t.meetAt(&c.known)
		c.out = 0
	}
	g.put(c)
}
