package emit

import "holdfast/api"

// exchange writes an IPut. What stood there is kept aside till the new value is there, then dropped.
func (f *function) exchange(in *api.Instr) {
	kind, to := f.kindAt(in.To), f.spotOf(in.To, f.to)
	if !f.owns(kind) {
		f.take(in.Args[0], to)
		return
	}
	p := f.pathAt(in.To)
	if p != nil {
		f.copy(slot(f.oldFlag), slot(p.flag), p.flags)
	}
	f.copy(slot(f.old), to, f.weight(kind))
	f.take(in.Args[0], to)
	f.gain(in.To)
	if p != nil {
		f.drop(p, f.old, f.oldFlag)
		return
	}
	f.adr(f.top, f.old)
	f.call(f.dropper(kind), f.top, f.cleans)
}

// drop writes how what a path has stood for is dropped, so far as it is there: its first slot, and its first flag, are told. A panic that comes of it goes on when all of it is dropped.
func (f *function) drop(p *path, at, flag int) {
	skip := f.newLabel()
	f.unless(flag, skip)
	f.set(flag, 0)
	f.adr(f.top, at)
	if len(p.below) == 0 {
		f.call(f.dropper(p.kind), f.top, f.cleans)
	} else {
		f.adr(f.top+1, flag)
		f.call(f.pathDropper(p), f.top, f.cleans)
	}
	f.place(skip)
}
