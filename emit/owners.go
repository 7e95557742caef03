package emit

import (
	"holdfast/api"
	"holdfast/shapes"
)

// closure drops a closure: it knows itself what drops what it has captured.
func (d *dropping) closure() {
	none := d.newLabel()
	d.load(d.a, 0, 0)
	d.load(d.b, d.a, closureDrop)
	d.unless(d.b, none)
	d.plus(d.top, d.a, closureWords)
	at := d.aside()
	d.callAt(d.b, d.top, at.from)
	d.place(at.back)
	d.place(none)
	d.release(d.a)
}

// lib drops a value of one of std's types.
func (d *dropping) lib(kind shapes.Type, s shapes.Shape) {
	content := s.Args[0]
	switch s.N {
	case api.LyBox:
		d.load(d.a, 0, 0)
		d.behind(d.a, part{content, 0})
		d.release(d.a)
	case api.LyVec:
		d.elements(content)
	case api.LyRc:
		d.share(content)
	case api.LyArc:
		d.sync()
		d.share(content)
	case api.LyCell, api.LyRefCell, api.LyMutex:
		d.each(d.parts(kind, 0))
	case api.LySender:
		d.sender()
	case api.LyReceiver:
		d.receiver(content)
	case api.LyHandle:
		d.handle(content)
	case api.LyRef:
		d.load(d.a, 0, 0)
		d.change(d.b, spot{d.a, cellState}, -1)
	case api.LyRefMut:
		d.load(d.a, 0, 0)
		d.leaveNumber(spot{d.a, cellState}, 0)
	case api.LyLock:
		d.sync()
		d.load(d.a, 0, 0)
		d.leaveNumber(spot{d.a, cellState}, 1)
	}
}

// elements drops those of a Vec, from the first one on.
func (d *dropping) elements(content shapes.Type) {
	again, done, none := d.newLabel(), d.newLabel(), d.newLabel()
	if d.dropped(content) {
		d.load(d.a, 0, vecWords)
		d.load(d.b, 0, vecCount)
		d.place(again)
		d.unless(d.b, done)
		d.behind(d.a, part{content, 0})
		d.plus(d.a, d.a, d.weight(content))
		d.plus(d.b, d.b, -1)
		d.jump(again)
		d.place(done)
	}
	d.load(d.a, 0, vecWords)
	d.unless(d.a, none)
	d.release(d.a)
	d.place(none)
}

// share drops an Rc or Arc.
func (d *dropping) share(content shapes.Type) {
	last, done := d.newLabel(), d.newLabel()
	d.load(d.a, 0, 0)
	d.change(d.b, spot{d.a, shareCount}, -1)
	d.unless(d.b, last)
	d.jump(done)
	d.place(last)
	d.behind(d.a, part{content, shareWords})
	d.release(d.a)
	d.place(done)
}

func (d *dropping) sender() {
	last, none, done := d.newLabel(), d.newLabel(), d.newLabel()
	d.sync()
	d.load(d.a, 0, 0)
	d.change(d.b, spot{d.a, chanSenders}, -1)
	d.unless(d.b, last)
	d.jump(done)
	d.place(last)
	d.change(d.b, spot{d.a, chanReady}, 1)
	d.load(d.b, d.a, chanOpen)
	d.unless(d.b, none)
	d.jump(done)
	d.place(none)
	d.release(d.a)
	d.place(done)
}

// receiver drops a Receiver. What waits is taken out of the channel first: that may end while it is dropped.
func (d *dropping) receiver(content shapes.Type) {
	alone, again, done := d.newLabel(), d.newLabel(), d.newLabel()
	d.sync()
	d.load(d.a, 0, 0)
	d.leaveNumber(spot{d.a, chanOpen}, 0)
	d.load(d.c, d.a, chanFirst)
	d.load(d.b, d.a, chanSenders)
	d.unless(d.b, alone)
	d.jump(again)
	d.place(alone)
	d.release(d.a)
	d.place(again)
	d.unless(d.c, done)
	d.behind(d.c, part{content, waitWords})
	d.move(d.a, d.c)
	d.load(d.c, d.c, waitNext)
	d.release(d.a)
	d.jump(again)
	d.place(done)
}

func (d *dropping) handle(content shapes.Type) {
	going, none, done := d.newLabel(), d.newLabel(), d.newLabel()
	d.sync()
	d.load(d.a, 0, 0)
	d.load(d.b, d.a, handleLeft)
	d.unless(d.b, going)
	d.load(d.b, d.a, handleGave)
	d.unless(d.b, none)
	d.behind(d.a, part{content, handleWords})
	d.place(none)
	d.release(d.a)
	d.jump(done)
	d.place(going)
	d.leaveNumber(spot{d.a, handleHeld}, 0)
	d.place(done)
}
