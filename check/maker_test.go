package check

import (
	"fmt"
	"math/rand"
	"strings"
)

// kind is a type of a made text.
type kind struct {
	head string // int, bool, tuple, Option, &, &mut, Box, G, E, fn, T
	args []kind
}

func (k kind) text() string {
	var args []string
	for _, arg := range k.args {
		args = append(args, arg.text())
	}
	all := strings.Join(args, ", ")
	switch k.head {
	case "tuple":
		return "(" + all + ")"
	case "&":
		return "&" + all
	case "&mut":
		return "&mut " + all
	case "fn":
		last := len(args) - 1
		return "fn(" + strings.Join(args[:last], ", ") + ") -> " + args[last]
	case "G":
		return "k::G<" + all + " >"
	case "int", "bool", "E", "T":
		return k.head
	}
	return k.head + "<" + all + " >"
}

// bare says whether no lifetime stands in a type.
func (k kind) bare() bool {
	if k.head == "&" || k.head == "&mut" || k.head == "fn" {
		return false
	}
	for _, arg := range k.args {
		if !arg.bare() {
			return false
		}
	}
	return true
}

// maker makes up expressions of types. Mostly they are what they should be.
type maker struct {
	*rand.Rand
	names []string
	kinds []kind
	count int // of the names that it has given
	loops int // around
	out   kind
	left  int // how many expressions it may still make
}

func (m *maker) kind(depth int) kind {
	if depth == 0 {
		return kind{head: []string{"int", "int", "bool", "E", "T"}[m.Intn(5)]}
	}
	switch m.Intn(9) {
	case 0:
		return kind{"tuple", []kind{m.kind(depth - 1), m.kind(depth - 1)}}
	case 1:
		return kind{[]string{"Option", "Box", "G"}[m.Intn(3)], []kind{m.kind(depth - 1)}}
	case 2:
		return kind{[]string{"&", "&mut"}[m.Intn(2)], []kind{m.kind(depth - 1)}}
	case 3:
		return kind{head: "tuple"}
	case 4:
		return m.closureKind(depth)
	}
	return m.kind(0)
}

// closureKind is a type of closures, in which no lifetime stands.
func (m *maker) closureKind(depth int) kind {
	k := kind{head: "fn"}
	for range 1 + m.Intn(2) {
		arg := m.kind(depth - 1)
		if !arg.bare() {
			arg = m.kind(0)
		}
		k.args = append(k.args, arg)
	}
	return k
}

// name makes a name come in sight. Some are those of others.
func (m *maker) name(k kind) string {
	m.count++
	name := fmt.Sprint("v", m.Intn(m.count)+m.Intn(3))
	m.names, m.kinds = append(m.names, name), append(m.kinds, k)
	return name
}

// within makes what has names of its own.
func (m *maker) within(make func() string) string {
	count := len(m.names)
	text := make()
	m.names, m.kinds = m.names[:count], m.kinds[:count]
	return text
}

// known is a name in sight with a type, or none.
func (m *maker) known(k kind) string {
	seen := map[string]int{}
	var fit []string
	for i := len(m.names) - 1; i >= 0; i-- {
		if seen[m.names[i]]++; seen[m.names[i]] == 1 && m.kinds[i].text() == k.text() {
			fit = append(fit, m.names[i])
		}
	}
	if len(fit) == 0 {
		return ""
	}
	return fit[m.Intn(len(fit))]
}

// value is an expression of a type.
func (m *maker) value(k kind) string {
	m.left--
	if name := m.known(k); name != "" && (m.left <= 0 || m.Intn(3) > 0) {
		return name
	}
	if m.Intn(60) == 0 {
		return m.slip(k)
	}
	if m.left <= 0 || m.Intn(3) == 0 {
		return m.plain(k)
	}
	switch m.Intn(12) {
	case 0:
		return "(if " + m.value(kind{head: "bool"}) + " " + m.block(k) + " else " + m.block(k) + ")"
	case 1:
		return m.match(k)
	case 2, 3:
		return "(" + m.block(k) + ")"
	case 4:
		return "k::id(" + m.value(k) + ")"
	case 5:
		if m.Intn(2) == 0 {
			return "(" + m.value(k) + ", " + m.value(m.kind(1)) + ").0"
		}
		return "(" + m.value(m.kind(1)) + ", " + m.value(k) + ").1"
	case 6:
		return "(*&" + m.value(k) + ")"
	case 7:
		return "unbox(boxed(" + m.value(k) + "))"
	case 8:
		return "make k::G { h: Option::None, g: " + m.value(k) + " }.g"
	case 9:
		return m.called(k)
	}
	return m.plain(k)
}

// slip is something that may be out of place.
func (m *maker) slip(k kind) string {
	switch m.Intn(5) {
	case 0:
		return "panic"
	case 1:
		return "(return " + m.value(m.out) + ")"
	case 2:
		return m.value(m.kind(1))
	case 3:
		if m.loops > 0 {
			return "break"
		}
	}
	return "(loop { })"
}

// plain is an expression that is made of the parts of its type.
func (m *maker) plain(k kind) string {
	switch k.head {
	case "int":
		return m.number()
	case "bool":
		return m.truth()
	case "T":
		if name := m.known(kind{"&", []kind{k}}); name != "" {
			return "k::cp(" + name + ")"
		}
		return "k::id::<T>(panic)"
	case "tuple":
		var parts []string
		for _, arg := range k.args {
			parts = append(parts, m.value(arg))
		}
		return "(" + strings.Join(parts, ", ") + ")"
	case "Option":
		if m.Intn(12) == 0 {
			return "Option::None"
		}
		return []string{"Option::None::<" + k.args[0].text() + ">", "Option::Some(" + m.value(k.args[0]) + ")"}[m.Intn(2)]
	case "&":
		return "(&" + m.value(k.args[0]) + ")"
	case "&mut":
		return "(&mut " + m.value(k.args[0]) + ")"
	case "Box":
		return "boxed(" + m.value(k.args[0]) + ")"
	case "G":
		first, second := "g: "+m.value(k.args[0]), "h: "+m.value(kind{"Option", k.args})
		if m.Intn(2) == 0 {
			first, second = second, first
		}
		return "make k::G { " + first + ", " + second + " }"
	case "fn":
		return m.closure(k)
	}
	return []string{"E::A", "k::E::B(" + m.value(kind{head: "int"}) + ")", "E::C(" + m.value(kind{head: "int"}) + ", " + m.value(kind{head: "bool"}) + ")"}[m.Intn(3)]
}

func (m *maker) number() string {
	if m.left <= 0 || m.Intn(2) == 0 {
		return fmt.Sprint(m.Intn(9))
	}
	i := kind{head: "int"}
	switch m.Intn(4) {
	case 0:
		return "(-" + m.value(i) + ")"
	case 1:
		return "T1::t(" + m.value(kind{"&", []kind{{head: []string{"int", "T"}[m.Intn(2)]}}}) + ")"
	case 2:
		return "len(&vec::<" + m.kind(2).text() + ">())"
	}
	return "(" + m.value(i) + []string{" + ", " - ", " * ", " / ", " % "}[m.Intn(5)] + m.value(i) + ")"
}

func (m *maker) truth() string {
	i, b := kind{head: "int"}, kind{head: "bool"}
	if m.left <= 0 {
		return "true"
	}
	switch m.Intn(6) {
	case 0:
		return "(!" + m.value(b) + ")"
	case 1:
		return "(" + m.value(i) + []string{" < ", " <= ", " > ", " >= ", " == ", " != "}[m.Intn(6)] + m.value(i) + ")"
	case 2:
		return "(" + m.value(b) + []string{" && ", " || ", " == "}[m.Intn(3)] + m.value(b) + ")"
	}
	return []string{"true", "false"}[m.Intn(2)]
}

// block is a block that gives a value of a type.
func (m *maker) block(k kind) string {
	return m.within(func() string {
		text := "{ "
		for range m.Intn(3) {
			text += m.statement()
		}
		return text + m.value(k) + " }"
	})
}

func (m *maker) statement() string {
	k := m.kind(2)
	switch m.Intn(8) {
	case 0:
		return "let " + m.name(k) + ": " + k.text() + "; "
	case 1:
		value := m.value(k)
		return "let mut " + m.name(k) + ": " + k.text() + " = " + value + "; "
	case 2:
		m.loops++
		body := m.block(kind{head: "tuple"})
		m.loops--
		return []string{"while " + m.value(kind{head: "bool"}), "if " + m.value(kind{head: "bool"}), "loop"}[m.Intn(3)] + " " + body + " "
	case 3:
		if name := m.known(k); name != "" {
			return name + " = " + m.value(k) + "; "
		}
	case 4:
		return m.spawn()
	}
	value := m.value(k)
	return "let " + m.name(k) + " = " + value + "; "
}

// match takes something apart.
func (m *maker) match(k kind) string {
	of := m.kind(2)
	arm := func(pattern string) string {
		return m.within(func() string { return pattern + " => " + m.value(k) + ", " })
	}
	text := "(match " + m.value(of) + " { "
	switch of.head {
	case "int":
		text += arm(fmt.Sprint(m.Intn(5)-2)) + arm("_")
	case "bool":
		text += arm("true") + arm("false")
	case "tuple":
		if len(of.args) == 2 {
			text += m.within(func() string {
				first := m.name(of.args[0])
				second := m.name(kind{"&", of.args[1:]})
				return "(" + first + ", ref " + second + ") => " + m.value(k) + ", "
			})
			break
		}
		text += arm("()")
	case "Option":
		text += arm("Option::None") + m.within(func() string { return "Option::Some(" + m.name(of.args[0]) + ") => " + m.value(k) })
	case "E":
		text += arm("E::A") + arm("k::E::B(_)") + m.within(func() string {
			return "E::C(ref mut " + m.name(kind{"&mut", []kind{{head: "int"}}}) + ", _) => " + m.value(k)
		})
	default:
		text += m.within(func() string { return "mut " + m.name(of) + " => " + m.value(k) })
	}
	return text + " })"
}

// captures lists some of the names in sight, and leaves these alone in sight.
func (m *maker) captures(itself bool) string {
	var out, names []string
	var kinds []kind
	seen := map[string]int{}
	for i := len(m.names) - 1; i >= 0; i-- {
		if seen[m.names[i]]++; seen[m.names[i]] > 1 || m.Intn(3) > 0 {
			continue
		}
		names = append(names, m.names[i])
		switch way := m.Intn(3); {
		case way == 0 || itself:
			out, kinds = append(out, m.names[i]), append(kinds, m.kinds[i])
		case way == 1:
			out, kinds = append(out, "&"+m.names[i]), append(kinds, kind{"&", m.kinds[i : i+1]})
		default:
			out, kinds = append(out, "&mut "+m.names[i]), append(kinds, kind{"&mut", m.kinds[i : i+1]})
		}
	}
	m.names, m.kinds = names, kinds
	return "[" + strings.Join(out, ", ") + "]"
}

// inside makes a body of its own.
func (m *maker) inside(out kind, make func() string) string {
	names, kinds, loops, was := m.names, m.kinds, m.loops, m.out
	m.loops, m.out = 0, out
	text := make()
	m.names, m.kinds, m.loops, m.out = names, kinds, loops, was
	return text
}

func (m *maker) closure(k kind) string {
	last := len(k.args) - 1
	return m.inside(k.args[last], func() string {
		text := "fn" + m.captures(false) + "("
		for i, param := range k.args[:last] {
			if i > 0 {
				text += ", "
			}
			text += m.name(param) + ": " + param.text()
		}
		return "(" + text + ") -> " + k.args[last].text() + " " + m.block(k.args[last]) + ")"
	})
}

func (m *maker) called(k kind) string {
	if !k.bare() {
		return m.plain(k)
	}
	f := kind{"fn", []kind{{head: "int"}, k}}
	return m.value(f) + "(" + m.value(f.args[0]) + ")"
}

func (m *maker) spawn() string {
	k := kind{head: []string{"int", "E", "T"}[m.Intn(3)]}
	return m.inside(k, func() string { return "spawn" + m.captures(true) + " -> " + k.text() + " " + m.block(k) + "; " })
}

// text is a text with a function of made statements.
func (m *maker) text() string {
	out := m.kind(2)
	for !out.bare() {
		out = m.kind(1)
	}
	m.out = out
	m.names, m.kinds = []string{"t", "n"}, []kind{{"&", []kind{{head: "T"}}}, {head: "int"}}
	return inMain("fn f<T: T1 + Copy + Send + Sync>(t: &T, n: int) -> "+out.text()+" "+m.block(out), "n")
}
