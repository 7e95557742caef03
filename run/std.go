package run

import "holdfast/api"

// itsOwner is what a reference leads to, touched.
func (t *thread) itsOwner(v value) value {
	r := asked[refer](v)
	of := r.seen()
	t.touch(r.spot, false, plain)
	return of
}

// itsThing is the thing of one of std's owners that a reference leads to.
func (t *thread) itsThing(v value) *thing {
	return asked[owner](t.itsOwner(v)).leads
}

// itsCell is the cell that a reference leads to, and its spot. Its head, or its content, as part says, is touched ahead of asking whether it is a cell: where another value stands by now, it is the touch that tells what is wrong.
func (t *thread) itsCell(v value, part int, write bool, way int) (cell, spot) {
	r := asked[refer](v)
	of := r.seen()
	t.touch(r.part(part), write, way)
	return asked[cell](of), r.spot
}

// lib answers what a function of std gives, or that there is a panic.
func (t *thread) lib(n int, opers []value) (value, bool) {
	switch n {
	case api.LAt, api.LAtMut, api.LView, api.LViewMut:
		return t.libElements(n, opers)
	case api.LSLen, api.LSAt, api.LCut, api.LMLen, api.LMAt, api.LCutMut:
		return t.libSlice(n, opers)
	case api.LBorrow, api.LBorrowMut:
		return t.libBorrow(n, opers[0])
	case api.LRc, api.LRcClone, api.LRcGet, api.LRcCount, api.LArc, api.LArcClone, api.LArcGet:
		return t.libShared(n, opers[0]), true
	case api.LCell, api.LGet, api.LSet, api.LRefCell, api.LMutex, api.LLock:
		return t.libCell(n, opers), true
	case api.LRefGet, api.LMutGet, api.LLockGet:
		g := asked[guard](t.itsOwner(opers[0]))
		return t.refTo(g.part(0), g.by, n != api.LRefGet), true
	case api.LChan, api.LSend, api.LRecv, api.LSenderClone, api.LJoin:
		return t.libThreads(n, opers), true
	}
	return t.libOwned(n, opers), true
}

// refTo is a reference to a spot, with a tag that is made from another one.
func (t *thread) refTo(s spot, from *tag, mut bool) value {
	return refer{spot{s.at, s.path, t.newTag(from, mut, false)}}
}

// libOwned has the functions of Box and Vec that do not panic, and those of no type.
func (t *thread) libOwned(n int, opers []value) value {
	switch n {
	case api.LBoxed:
		return owner{api.LyBox, t.onHeap(opers[0])}
	case api.LUnbox:
		x := asked[owner](opers[0]).leads
		v := t.take(whole(x))
		t.end(x)
		return v
	case api.LReplace:
		s := asked[refer](opers[0]).spot
		old := s.allThere()
		t.touch(s, true, plain)
		s.put(opers[1])
		return old
	case api.LOut:
		t.outs = append(t.outs, int(asked[number](opers[0])))
		return tupleOf()
	case api.LVec:
		return owner{api.LyVec, t.onHeap(tupleOf())}
	case api.LLen:
		return number(len(partsOf(t.elements(opers[0]).holds)))
	}
	return t.libEnds(n, opers)
}

// libEnds has push and pop.
func (t *thread) libEnds(n int, opers []value) value {
	x := t.itsThing(opers[0])
	t.touch(whole(x), true, plain)
	all := partsOf(x.holds)
	if n == api.LPush {
		x.holds = grown(x.holds, opers[1])
		return tupleOf()
	}
	if len(all) == 0 {
		return none()
	}
	last := whole(x).part(len(all) - 1).allThere()
	x.holds = tupleOf(all[:len(all)-1]...)
	return some(last)
}

// elements is the thing of a Vec, whose length is asked for.
func (t *thread) elements(v value) *thing {
	x := t.itsThing(v)
	t.touch(whole(x).head(), false, plain)
	return x
}

func (t *thread) libElements(n int, opers []value) (value, bool) {
	x := t.elements(opers[0])
	length := len(partsOf(x.holds))
	from := int(asked[number](opers[1]))
	mut := n == api.LAtMut || n == api.LViewMut
	if n == api.LAt || n == api.LAtMut {
		if from < 0 || from >= length {
			return nil, false
		}
		return t.refTo(whole(x).part(from), nil, mut), true
	}
	to := int(asked[number](opers[2]))
	if from < 0 || from > to || to > length {
		return nil, false
	}
	return slice{x, from, to - from, t.newTag(nil, mut, false)}, true
}

func (t *thread) libSlice(n int, opers []value) (value, bool) {
	of := opers[0]
	if n == api.LMLen || n == api.LMAt {
		of = t.itsOwner(of)
	}
	s := asked[slice](of)
	if n == api.LSLen || n == api.LMLen {
		return number(s.count), true
	}
	k := int(asked[number](opers[1]))
	if n == api.LSAt || n == api.LMAt {
		if k < 0 || k >= s.count {
			return nil, false
		}
		return t.refTo(whole(s.at).part(s.from+k), s.by, n == api.LMAt), true
	}
	if k < 0 || k > s.count {
		return nil, false
	}
	first := slice{s.at, s.from, k, t.newTag(s.by, n == api.LCutMut, false)}
	second := slice{s.at, s.from + k, s.count - k, t.newTag(s.by, n == api.LCutMut, false)}
	return tupleOf(first, second), true
}

// libShared has the functions of Rc and Arc.
func (t *thread) libShared(n int, of value) value {
	switch n {
	case api.LRc:
		return t.share(api.LyRc, t.onHeap(tupleOf(of)))
	case api.LArc:
		return t.share(api.LyArc, t.onHeap(tupleOf(of)))
	}
	x := t.itsThing(of)
	switch n {
	case api.LRcClone:
		t.touch(whole(x).head(), true, inner)
		return t.share(api.LyRc, x)
	case api.LRcCount:
		t.touch(whole(x).head(), false, inner)
		return number(x.owners)
	case api.LArcClone:
		t.meetAt(&x.known)
		return t.share(api.LyArc, x)
	}
	return t.refTo(whole(x).part(0), nil, false)
}

// share makes one owner more.
func (t *thread) share(kind int, x *thing) value {
	x.owners++
	return owner{kind, x}
}

// libCell has the functions of cells that do not panic.
func (t *thread) libCell(n int, opers []value) value {
	switch n {
	case api.LCell:
		return newCell(api.LyCell, opers[0])
	case api.LRefCell:
		return newCell(api.LyRefCell, opers[0])
	case api.LMutex:
		return newCell(api.LyMutex, opers[0])
	case api.LGet:
		c, _ := t.itsCell(opers[0], 0, false, inner)
		return c.parts[0]
	case api.LSet:
		_, s := t.itsCell(opers[0], 0, true, inner)
		s.part(0).put(opers[1])
		return tupleOf()
	}
	c, s := t.itsCell(opers[0], head, true, atomic)
	t.meetAt(&c.known)
	c.out = 1
	s.put(c)
	return guard{api.LyLock, spot{s.at, s.path, t.newTag(s.by, true, true)}}
}

func (t *thread) libBorrow(n int, of value) (value, bool) {
	c, s := t.itsCell(of, head, true, inner)
	if c.out == withMut || n == api.LBorrowMut && c.out != 0 {
		return nil, false
	}
	kind := api.LyRef
	c.out++
	if n == api.LBorrowMut {
		kind, c.out = api.LyRefMut, withMut
	}
	s.put(c)
	return guard{kind, spot{s.at, s.path, t.newTag(s.by, n == api.LBorrowMut, true)}}, true
}

// libThreads has the functions of channels and handles.
func (t *thread) libThreads(n int, opers []value) value {
	switch n {
	case api.LChan:
		x := t.onHeap(tupleOf())
		x.open = true
		return tupleOf(t.share(api.LySender, x), owner{api.LyReceiver, x})
	case api.LJoin:
		x := asked[owner](opers[0]).leads
		t.meetAt(&x.known)
		t.end(x)
		if _, isHole := x.holds.(hole); isHole {
			return none()
		}
		return some(x.holds)
	}
	x := t.itsThing(opers[0])
	t.meetAt(&x.known)
	waiting := partsOf(x.holds)
	switch {
	case n == api.LSenderClone:
		return t.share(api.LySender, x)
	case n == api.LSend && !x.open:
		return some(opers[1])
	case n == api.LSend:
		x.holds = grown(x.holds, opers[1])
		return none()
	case len(waiting) == 0:
		return none()
	}
	x.holds = tupleOf(waiting[1:]...)
	return some(waiting[0])
}
