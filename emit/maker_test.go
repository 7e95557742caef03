package emit

import (
	"fmt"
	"math/rand"
	"slices"
	"strings"
)

// kindOf is a type of a made text, with how a value of it is written and what it is made of.
type kindOf struct {
	text  string
	sends bool
	parts []*kindOf              // of a tuple or a struct that has no Drop, by their places
	names []string               // of these
	value func(r *scribe) string // an expression of this type
	cases [][]*kindOf            // of an enum without a Drop
	of    *kindOf                // of Box, Vec, Option and so on
}

// variable is a variable of a made text.
type variable struct {
	name  string
	kind  *kindOf
	mut   bool
	none  bool     // it may not be there
	gone  []string // parts of it that may not be there
	depth int      // how many loops are around it
}

// there says whether all of it is there, on all ways.
func (v *variable) there() bool {
	return !v.none && len(v.gone) == 0
}

// has says whether all of a part is there.
func (v *variable) has(part string) bool {
	return !v.none && !slices.ContainsFunc(v.gone, func(g string) bool {
		return strings.HasPrefix(g+".", part+".") || strings.HasPrefix(part+".", g+".")
	})
}

// takes says whether a part may be given anew: what it stands in is there.
func (v *variable) takes(part string) bool {
	return !v.none && !slices.ContainsFunc(v.gone, func(g string) bool {
		return g != part && strings.HasPrefix(part+".", g+".")
	})
}

// found is a part of a value, and its type.
type found struct {
	path string
	kind *kindOf
}

// within are the parts of a type, and theirs.
func (k *kindOf) within(path string) []found {
	var out []found
	for n, part := range k.parts {
		at := found{path + "." + k.names[n], part}
		out = append(append(out, at), part.within(at.path)...)
	}
	return out
}

// scribe makes up texts of owners: what is moved, in part or on some ways, given anew, dropped, by panics too.
type scribe struct {
	*rand.Rand
	items   []string
	kinds   []*kindOf
	vars    []*variable
	number  int
	depth   int // how many loops are around
	left    int // how many statements there may be
	inside  int // how many closures and threads are around
	returns string
}

func (m *scribe) next(name string) string {
	m.number++
	return fmt.Sprint(name, m.number)
}

func (m *scribe) kind() *kindOf {
	return m.kinds[m.Intn(len(m.kinds))]
}

func around(name, make string, of *kindOf, sends bool) *kindOf {
	return &kindOf{text: name + "<" + of.text + ">", sends: sends && of.sends, of: of, value: func(m *scribe) string {
		return strings.Replace(make, "$", of.value(m), 1)
	}}
}

// plain are the types that a text begins with.
func (m *scribe) plain() {
	for _, text := range []string{"d", "p", "z", "w"} {
		call := text + "(#)"
		if text == "z" {
			call = "z()"
		}
		m.kinds = append(m.kinds, &kindOf{text: strings.ToUpper(text), sends: true, value: func(m *scribe) string {
			return strings.Replace(call, "#", fmt.Sprint(m.Intn(7)), 1)
		}})
	}
}

// newKind adds a type that is made of those that are there.
func (m *scribe) newKind() {
	of := m.kind()
	var made *kindOf
	switch m.Intn(12) {
	case 0:
		made = around("Box", "boxed($)", of, true)
	case 1:
		made = around("Rc", "rc($)", of, false)
	case 2:
		made = around("RefCell", "refcell($)", of, true)
	case 3:
		made = around("Option", "Option::Some($)", of, true)
		some := made.value
		made.value = func(m *scribe) string {
			if m.Intn(3) == 0 {
				return "Option::None::<" + of.text + ">"
			}
			return some(m)
		}
		made.cases = [][]*kindOf{{}, {of}}
	case 4, 5:
		made = around("Vec", "one($)", of, true)
	case 6:
		made = around("Arc", "arc($)", of, false)
	case 7, 8:
		made = m.tuple(of, m.kind())
	case 9, 10:
		made = m.structOf(of, m.kind())
	case 11:
		made = m.enumOf(of, m.kind())
	}
	if len(made.text) < 60 {
		m.kinds = append(m.kinds, made)
	}
}

func (m *scribe) tuple(a, b *kindOf) *kindOf {
	return &kindOf{text: "(" + a.text + ", int, " + b.text + ")", sends: a.sends && b.sends, parts: []*kindOf{a, b}, names: []string{"0", "2"}, value: func(m *scribe) string {
		return "(" + a.value(m) + ", n, " + b.value(m) + ")"
	}}
}

func (m *scribe) structOf(a, b *kindOf) *kindOf {
	name := m.next("S")
	m.items = append(m.items, "struct "+name+" { a: "+a.text+", b: "+b.text+" }")
	made := &kindOf{text: name, sends: a.sends && b.sends, parts: []*kindOf{a, b}, names: []string{"a", "b"}, value: func(m *scribe) string {
		return "make " + name + " { a: " + a.value(m) + ", b: " + b.value(m) + " }"
	}}
	if m.Intn(3) == 0 {
		m.items = append(m.items, "impl Drop for "+name+" { fn drop(self: &mut "+name+") { out("+fmt.Sprint(m.Intn(90)+10)+"); } }")
		made.parts, made.names = nil, nil
	}
	return made
}

func (m *scribe) enumOf(a, b *kindOf) *kindOf {
	name := m.next("E")
	m.items = append(m.items, "enum "+name+" { A("+a.text+"), B, C("+b.text+", int, "+a.text+") }")
	return &kindOf{text: name, sends: a.sends && b.sends, cases: [][]*kindOf{{a}, {}, {b, nil, a}}, value: func(m *scribe) string {
		switch m.Intn(3) {
		case 0:
			return name + "::A(" + a.value(m) + ")"
		case 1:
			return name + "::B"
		}
		return name + "::C(" + b.value(m) + ", n, " + a.value(m) + ")"
	}}
}

// pick is a variable of which something holds, or nil.
func (m *scribe) pick(holds func(*variable) bool) *variable {
	var found []*variable
	for _, v := range m.vars {
		if holds(v) {
			found = append(found, v)
		}
	}
	if len(found) == 0 {
		return nil
	}
	return found[m.Intn(len(found))]
}

// canMove says whether all of a variable may be moved here: it is there, and in this round of the loop alone.
func (m *scribe) canMove(v *variable) bool {
	return v.there() && v.depth == m.depth
}

// operand is a value of a type: a variable, now and then, which is moved.
func (m *scribe) operand(k *kindOf) string {
	if v := m.pick(func(v *variable) bool { return v.kind == k && m.canMove(v) }); v != nil && m.Intn(2) == 0 {
		v.none = true
		return v.name
	}
	return k.value(m)
}

// scoped makes statements in a block: its own variables end with it.
func (m *scribe) scoped(many int) string {
	before := len(m.vars)
	text := m.statements(many)
	m.vars = m.vars[:before]
	return "{ " + text + "}"
}

func (m *scribe) statements(many int) string {
	var out strings.Builder
	for range many {
		out.WriteString(m.statement() + " ")
	}
	return out.String()
}

// states are whether the variables are there, and what has gone out of them.
func (m *scribe) states() []variable {
	var out []variable
	for _, v := range m.vars {
		out = append(out, variable{none: v.none, gone: slices.Clone(v.gone)})
	}
	return out
}

// restore puts states back; those that are there by both ways, if meet is true.
func (m *scribe) restore(states []variable, meet bool) {
	for n, s := range states {
		v := m.vars[n]
		if meet {
			v.none = v.none || s.none
			for _, part := range s.gone {
				if !slices.Contains(v.gone, part) {
					v.gone = append(v.gone, part)
				}
			}
			continue
		}
		v.none, v.gone = s.none, s.gone
	}
}

func (m *scribe) condition() string {
	return fmt.Sprint("n ", []string{">", "<", "==", "!="}[m.Intn(4)], " ", m.Intn(7))
}

func (m *scribe) branch() string {
	condition, before := m.condition(), m.states()
	yes := m.scoped(1 + m.Intn(3))
	after := m.states()
	m.restore(before, false)
	if m.Intn(2) == 0 {
		m.restore(after, true)
		return "if " + condition + " " + yes
	}
	no := m.scoped(1 + m.Intn(3))
	m.restore(after, true)
	return "if " + condition + " " + yes + " else " + no
}

func (m *scribe) loop() string {
	if m.depth > 1 {
		return "out(2);"
	}
	i, before := m.next("i"), m.states()
	m.depth++
	body := m.scoped(1 + m.Intn(4))
	m.depth--
	m.restore(before, true)
	return fmt.Sprint("let mut ", i, " = 0; while ", i, " < ", 1+m.Intn(3), " { ", i, " = ", i, " + 1; ", body, " }")
}

// leave goes out of something on some ways.
func (m *scribe) leave() string {
	ways := []string{"panic", "return " + m.returns}
	if m.depth > 0 && m.inside == 0 {
		ways = append(ways, "break", "next")
	}
	return "if " + m.condition() + " { " + ways[m.Intn(len(ways))] + "; }"
}

// let makes a variable.
func (m *scribe) let(kind *kindOf, value string) string {
	v := &variable{name: m.next("x"), kind: kind, mut: m.Intn(3) > 0, none: value == "", depth: m.depth}
	m.vars = append(m.vars, v)
	text := "let "
	if v.mut {
		text += "mut "
	}
	text += v.name
	if value == "" {
		return text + ": " + kind.text + ";"
	}
	return text + " = " + value + ";"
}

func (m *scribe) statement() string {
	if m.left--; m.left < 0 {
		return "out(1);"
	}
	switch m.Intn(20) {
	case 0, 1, 2:
		k := m.kind()
		return m.let(k, m.operand(k))
	case 3:
		return m.let(m.kind(), "")
	case 4:
		k := m.kind()
		return "eat(" + m.operand(k) + ");"
	case 5, 6:
		return m.branch()
	case 7:
		return m.loop()
	case 8:
		return m.scoped(1 + m.Intn(3))
	case 9:
		return m.leave()
	case 10, 11:
		return m.assign()
	case 12, 13:
		return m.movePart()
	case 14:
		return m.match()
	case 15:
		return m.within()
	case 16, 17:
		return m.closure()
	case 18:
		return m.thread()
	}
	return fmt.Sprint("out(", m.Intn(100), ");")
}

// assign gives a variable, or a part of it, anew.
func (m *scribe) assign() string {
	v := m.pick(func(v *variable) bool { return v.mut })
	if v == nil {
		return "out(3);"
	}
	if parts := v.kind.within(v.name); len(parts) > 0 && m.Intn(2) == 0 {
		at := parts[m.Intn(len(parts))]
		if !v.takes(at.path) {
			return "out(30);"
		}
		v.gone = slices.DeleteFunc(v.gone, func(g string) bool { return strings.HasPrefix(g+".", at.path+".") })
		return at.path + " = " + at.kind.value(m) + ";"
	}
	if v.there() && m.Intn(3) == 0 {
		return "{ let r = &mut " + v.name + "; *r = " + v.kind.value(m) + "; }"
	}
	if v.there() && m.Intn(3) == 0 {
		return "eat(replace(&mut " + v.name + ", " + v.kind.value(m) + "));"
	}
	value := v.kind.value(m)
	v.none, v.gone = false, nil
	return v.name + " = " + value + ";"
}

// movePart moves a part of a variable.
func (m *scribe) movePart() string {
	v := m.pick(func(v *variable) bool { return !v.none && v.depth == m.depth && len(v.kind.parts) > 0 })
	if v == nil {
		return "out(4);"
	}
	parts := v.kind.within(v.name)
	at := parts[m.Intn(len(parts))]
	if !v.has(at.path) {
		return "out(31);"
	}
	v.gone = append(v.gone, at.path)
	if m.Intn(2) == 0 {
		return "eat(" + at.path + ");"
	}
	return m.let(at.kind, at.path)
}

// pattern takes a value as a whole, or in parts, or lets it be.
func (m *scribe) pattern(k *kindOf) string {
	switch {
	case m.Intn(2) == 0:
		return "_"
	case k != nil && strings.HasPrefix(k.text, "(") && m.Intn(2) == 0:
		return "(" + m.pattern(k.parts[0]) + ", _, " + m.pattern(k.parts[1]) + ")"
	}
	return m.next("y")
}

// match takes an enum apart: some of its parts are moved away.
func (m *scribe) match() string {
	v := m.pick(func(v *variable) bool { return m.canMove(v) && len(v.kind.cases) > 0 })
	if v == nil {
		return "out(5);"
	}
	v.none = true
	arms := ""
	for n, parts := range v.kind.cases {
		name := v.kind.text + "::" + string("ABC"[n])
		if v.kind.of != nil {
			name = []string{"Option::None", "Option::Some"}[n]
		}
		var patterns []string
		for _, part := range parts {
			patterns = append(patterns, m.pattern(part))
		}
		if len(parts) > 0 {
			name += "(" + strings.Join(patterns, ", ") + ")"
		}
		arms += fmt.Sprint(name, " => { out(", 20+n, "); }, ")
	}
	return "match " + v.name + " { " + arms + "}"
}

// within does something with what a variable leads to.
func (m *scribe) within() string {
	v := m.pick(func(v *variable) bool { return v.there() && v.mut && v.kind.of != nil })
	if v == nil {
		return "out(6);"
	}
	value := v.kind.of.value(m)
	switch {
	case strings.HasPrefix(v.kind.text, "Vec"):
		if m.Intn(3) == 0 {
			return "pop(&mut " + v.name + ");"
		}
		return "push(&mut " + v.name + ", " + value + ");"
	case strings.HasPrefix(v.kind.text, "Box"):
		return "*" + v.name + " = " + value + ";"
	case strings.HasPrefix(v.kind.text, "RefCell"):
		return "*mut_get(&mut borrow_mut(&" + v.name + ")) = " + value + ";"
	case strings.HasPrefix(v.kind.text, "Rc"):
		return m.let(v.kind, "rc_clone(&"+v.name+")")
	case strings.HasPrefix(v.kind.text, "Arc"):
		return m.let(v.kind, "arc_clone(&"+v.name+")")
	}
	return v.name + " = Option::Some(" + value + ");"
}

// captured is a variable that goes into a closure, or a thread, and the code within that.
func (m *scribe) captured(holds func(*variable) bool) (*variable, string) {
	v := m.pick(func(v *variable) bool { return m.canMove(v) && holds(v) })
	if v == nil || m.inside > 0 {
		return nil, ""
	}
	v.none = true
	vars, depth, returns := m.vars, m.depth, m.returns
	m.vars, m.depth, m.returns = nil, 0, v.kind.value(m)
	m.inside++
	body := m.statements(1 + m.Intn(3))
	m.inside--
	m.vars, m.depth, m.returns = vars, depth, returns
	return v, body
}

func (m *scribe) closure() string {
	v, body := m.captured(func(*variable) bool { return true })
	if v == nil {
		return "out(7);"
	}
	f := m.next("f")
	text := "let " + f + " = fn once[" + v.name + ", n]() -> " + v.kind.text + " { " + body + v.name + " }; "
	if m.Intn(3) == 0 {
		return text
	}
	return text + m.let(v.kind, f+"()")
}

func (m *scribe) thread() string {
	v, body := m.captured(func(v *variable) bool { return v.kind.sends })
	if v == nil {
		return "out(8);"
	}
	h := m.next("h")
	text := "let " + h + " = spawn[" + v.name + ", n] -> " + v.kind.text + " { " + body + v.name + " }; "
	switch m.Intn(3) {
	case 0:
		return text
	case 1:
		return text + "eat(" + h + ");"
	}
	return text + m.let(&kindOf{text: "Option<" + v.kind.text + ">", sends: true, of: v.kind, value: func(m *scribe) string { return "Option::Some(" + v.kind.value(m) + ")" }, cases: [][]*kindOf{{}, {v.kind}}}, "join("+h+")")
}

// made is a text of a seed.
func made(seed int64) string {
	m := &scribe{Rand: rand.New(rand.NewSource(seed)), left: 24, returns: "7"}
	m.plain()
	for range 6 {
		m.newKind()
	}
	body := m.statements(10 + m.Intn(8))
	return "mod main { " + head + "fn one<T>(x: T) -> Vec<T> { let mut v = vec::<T>(); push(&mut v, x); v } " + strings.Join(m.items, " ") + " fn main(n: int) -> int { " + body + "n } }"
}
