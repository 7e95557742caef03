package emit

import "holdfast/shapes"

// droppers are routines that drop a value at the address in their slot 0: of types, of what closures have captured, and of paths that are there in part. They are written when it is known which ones are needed.
type droppers struct {
	ofKinds map[shapes.Type]label
	kinds   []shapes.Type // in the order in which they came up
	ofEnvs  map[int]label // by the function of the closure
	envs    []int
	ofPaths map[string]label // by their shapes
	paths   []*path
}

func newDroppers() droppers {
	return droppers{ofKinds: map[shapes.Type]label{}, ofEnvs: map[int]label{}, ofPaths: map[string]label{}}
}

// dropper is where what drops values of a type begins.
func (m *maker) dropper(kind shapes.Type) label {
	l, ok := m.ofKinds[kind]
	if !ok {
		l = m.newLabel()
		m.ofKinds[kind] = l
		m.kinds = append(m.kinds, kind)
	}
	return l
}

// envDropper is where what drops the captured values of a closure begins, or never, if nothing is to be done for them.
func (m *maker) envDropper(fn int) label {
	l, ok := m.ofEnvs[fn]
	if !ok && m.anyDropped(m.captured(fn, 0)) {
		l = m.newLabel()
		m.ofEnvs[fn] = l
		m.envs = append(m.envs, fn)
	}
	return l
}

// pathDropper is where what drops a path begins of which parts are given or moved by themselves. It is there itself; slot 1 is the address of its flags.
func (m *maker) pathDropper(p *path) label {
	shape := string(p.shape(nil))
	l, ok := m.ofPaths[shape]
	if !ok {
		l = m.newLabel()
		m.ofPaths[shape] = l
		m.paths = append(m.paths, p)
	}
	return l
}

// dropAll writes the routines, those too that come up meanwhile.
func (m *maker) dropAll() {
	for _, fn := range m.envs {
		m.dropping(m.ofEnvs[fn], func(d *dropping) { d.each(m.captured(fn, 0)) })
	}
	for _, p := range m.paths {
		m.dropping(m.ofPaths[string(p.shape(nil))], func(d *dropping) { d.path(p, p) })
	}
	for n := 0; n < len(m.kinds); n++ {
		m.dropping(m.ofKinds[m.kinds[n]], func(d *dropping) { d.value(m.kinds[n]) })
	}
}
