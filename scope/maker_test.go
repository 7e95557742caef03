package scope

import (
	"fmt"
	"math/rand"
	"slices"
	"strings"
)

// givenMods are modules whose items a made text may speak of.
const givenMods = "mod a { pub struct S { x: int } pub copy enum E<T> { X, Y(T) } pub struct D<'a, T> { x: &'a T } struct Hidden { } pub trait A { fn f(self: &Self, x: &int) -> &int; fn g(self: Self, y: Self) -> Self; } pub trait B { } } "

// givenUses are what a made module uses of them.
const givenUses = "use a::S; use a::E; use a::D; use a::A; "

// maker makes up modules whose names are few, so that many of them have faults and many have none.
type maker struct {
	*rand.Rand
	lives, types []string // in sight
	datas        []madeType
	made         int // how many items have been named
}

// madeType is a type with how many lifetimes and types it takes.
type madeType struct {
	path         string
	lives, types int
}

func newMaker(seed int64) *maker {
	return &maker{Rand: rand.New(rand.NewSource(seed)), datas: []madeType{
		{"S", 0, 0}, {"E", 0, 1}, {"D", 1, 1}, {"a::S", 0, 0}, {"a::D", 1, 1}, {"Option", 0, 1}, {"Box", 0, 1}, {"Vec", 0, 1}, {"Cell", 0, 1}, {"Slice", 1, 1}, {"RefMut", 1, 1},
	}}
}

// seldom is true now and then.
func (m *maker) seldom() bool {
	return m.Intn(60) == 0
}

func (m *maker) pick(of ...string) string {
	return of[m.Intn(len(of))]
}

// unless is the one, and seldom the other.
func (m *maker) unless(one, other string) string {
	if m.seldom() {
		return other
	}
	return one
}

// name is one that no other item has, as a rule.
func (m *maker) name() string {
	if m.seldom() {
		return m.pick("S", "n0", "out")
	}
	m.made++
	return fmt.Sprint("n", m.made-1)
}

func (m *maker) life() string {
	if m.seldom() {
		return "'q"
	}
	return m.pick(append(slices.Clone(m.lives), "'static")...)
}

// maybeLife is nothing where it may be left out, as a rule.
func (m *maker) maybeLife(must bool) string {
	if must != m.seldom() || m.Intn(2) == 0 {
		return m.life() + " "
	}
	return ""
}

// typ is a type. must: lifetimes have to be written.
func (m *maker) typ(depth int, must bool) string {
	if m.seldom() {
		return m.pick("Z", "Copy", "A", "Box", "S<int>", "a::Hidden", "Option::Some", "D<'static>", "main::main", "Self", "T<int>", "fn 'static(&int) -> int")
	}
	kind := m.Intn(8)
	if depth == 0 {
		kind = m.Intn(3)
	}
	switch kind {
	case 0:
		return m.pick("int", "bool", "()", "S")
	case 1, 2:
		return m.pick(append(slices.Clone(m.types), "int")...)
	case 3:
		return "(" + m.typ(depth-1, must) + ", " + m.typ(depth-1, must) + ")"
	case 4:
		return "&" + m.maybeLife(must) + m.pick("", "mut ") + m.typ(depth-1, must)
	case 5:
		return "fn " + m.maybeLife(must) + m.pick("", "mut ", "once ") + "(" + m.typ(0, must) + ") -> " + m.typ(0, must)
	}
	return m.pathType(depth, must)
}

func (m *maker) pathType(depth int, must bool) string {
	data := m.datas[m.Intn(len(m.datas))]
	var args []string
	if must || m.Intn(2) == 0 {
		for range data.lives {
			args = append(args, m.life())
		}
	}
	for range data.types {
		args = append(args, m.typ(depth-1, must))
	}
	if len(args) == 0 {
		return data.path
	}
	return data.path + "<" + strings.Join(args, ", ") + ">"
}

// gens writes so many lifetimes and types, which are in sight then; life and bound are what their bounds may be.
func (m *maker) gens(lives, types int, life, bound func() string) string {
	m.lives, m.types = []string{"'a", "'b"}[:lives], []string{"T", "U"}[:types]
	var out []string
	for _, name := range m.lives {
		if life != nil && m.Intn(4) == 0 {
			name += ": " + life()
		}
		out = append(out, name)
	}
	for _, name := range m.types {
		if bound != nil && m.Intn(4) == 0 {
			name += ": " + bound()
		}
		out = append(out, name)
	}
	if m.seldom() {
		out = append(out, "T")
	}
	if len(out) == 0 {
		return ""
	}
	return "<" + strings.Join(out, ", ") + ">"
}

func (m *maker) bound() string {
	if m.seldom() {
		return m.pick("Drop", "Z", "S", "'q", "Copy::x")
	}
	return m.pick("A", "Copy", "a::B", "Send + Sync")
}

func (m *maker) fnBound() string {
	if m.Intn(2) == 0 {
		return m.life()
	}
	return m.bound()
}

// data writes a data type, of which it itself and others may speak.
func (m *maker) data() string {
	d := madeType{m.name(), m.Intn(3), m.Intn(3)}
	m.datas = append(m.datas, d)
	text := m.pick("", "", "", "pub ", "copy ", "pub copy ")
	if m.Intn(2) == 0 {
		text += "struct " + d.path + m.gens(d.lives, d.types, nil, nil) + " { pub x: " + m.typ(2, true) + ", " + m.unless("y", "x") + ": " + m.typ(2, true) + " }"
	} else {
		text += "enum " + d.path + m.gens(d.lives, d.types, nil, nil) + " { X, Y(" + m.typ(2, true) + ", " + m.typ(1, true) + "), " + m.unless("W", "X") + " }"
	}
	return text
}

// head writes a function behind its gens, up to its block. own is its first parameter, if it has to be there.
func (m *maker) head(own string) string {
	params := []string{own}[:min(1, len(own))]
	for _, name := range []string{"x", "y", m.unless("z", "x")}[:m.Intn(4)] {
		params = append(params, m.pick("", "mut ")+name+": "+m.typ(2, false))
	}
	text := "(" + strings.Join(params, ", ") + ")"
	if m.Intn(2) == 0 {
		text += " -> " + m.typ(2, m.Intn(3) > 0)
	}
	return text
}

func (m *maker) trait() string {
	m.lives, m.types = nil, []string{"Self"}
	text := "trait " + m.name() + " { "
	for i := range m.Intn(3) {
		text += fmt.Sprint("fn f", i) + m.head("self: "+m.unless(m.pick("Self", "&Self", "&mut Self"), "int")) + "; "
	}
	return text + "}"
}

func (m *maker) function() string {
	own := m.pick("", "", "self: "+m.pick("S", "&int", "&mut S"))
	return m.pick("", "pub ") + "fn " + m.name() + m.gens(m.Intn(3), m.Intn(3), m.life, m.fnBound) + m.head(own) + " { 1 }"
}

func (m *maker) impl() string {
	types := m.Intn(2)
	gens := m.gens(m.Intn(2), types, nil, m.bound)
	m.types = nil
	self := m.typ(2, false)
	if types > 0 && !m.seldom() {
		self = m.pick("(T, "+self+")", "&T", "D<T>", "fn(T) -> int", "T")
	}
	fns := "fn f(self: &Self, x: &int) -> &int { panic } fn g(" + m.pick("self", "me") + ": Self, y: Self) -> Self { y } "
	if m.Intn(8) == 0 {
		fns = m.pick("", "fn f() { } ", "fn f(self: &Self) { } fn g(self: Self) { } ", "fn g(self: Self) { } ")
	}
	return "impl" + gens + m.unless(m.pick(" A", " a::A"), m.pick(" Copy", " a")) + " for " + self + " { " + fns + "}"
}

func (m *maker) drop() string {
	d := m.datas[m.Intn(len(m.datas))]
	gens := m.gens(d.lives*m.Intn(2), d.types, nil, nil)
	self := d.path
	if args := slices.Concat(m.lives, m.types); len(args) > 0 {
		self += "<" + strings.Join(args, ", ") + ">"
	}
	return "impl" + gens + " Drop for " + self + " { fn drop(self: &mut " + m.pick("Self", self) + ") { } }"
}

// text is the given modules, a module of so many made items, and main.
func (m *maker) text(items int) string {
	text := givenMods + "mod m { " + givenUses
	makers := []func() string{m.data, m.data, m.function, m.function, m.trait, m.impl, m.drop}
	for range items {
		text += makers[m.Intn(len(makers))]() + " "
	}
	return text + "}" + mainMod
}
