package lower

import (
	"fmt"
	"math/rand"
	"strings"
)

// known is a name in sight of a made text: its type, and whether it may be given anew.
type known struct {
	name, kind string
	mut        bool
}

// texter makes up functions that end, and never use what is not there: what they do can be told from their trees and from their code.
type texter struct {
	*rand.Rand
	names []known
	count int    // of the names that it has given
	loops int    // around
	out   string // the type of what the function gives
	left  int    // how many expressions it may still make
}

// kinds are the types of made values. Those that are not Copy stand last: of their variables only parts are used.
var kinds = []string{"int", "bool", "(int, bool)", "Option<int>", "F", "S<int>", "Box<int>", "fn(int) -> int"}

func (m *texter) copied() string {
	return kinds[m.Intn(6)]
}

func (m *texter) name(kind string, mut bool) string {
	m.count++
	name := fmt.Sprint("v", m.count)
	if m.Intn(4) == 0 {
		name = fmt.Sprint("v", 1+m.Intn(m.count))
	}
	m.names = append(m.names, known{name, kind, mut})
	return name
}

// other is a name that is no other's.
func (m *texter) other(kind string, mut bool) string {
	m.count++
	name := fmt.Sprint("u", m.count)
	m.names = append(m.names, known{name, kind, mut})
	return name
}

// seen are the names in sight that have a type, which are given anew if they have to be.
func (m *texter) seen(kind string, mut bool) []string {
	hidden := map[string]int{}
	var out []string
	for i := len(m.names) - 1; i >= 0; i-- {
		k := m.names[i]
		hidden[k.name]++
		if hidden[k.name] == 1 && k.kind == kind && (k.mut || !mut) {
			out = append(out, k.name)
		}
	}
	return out
}

// one is a name in sight with a type, or none.
func (m *texter) one(kind string, mut bool) string {
	names := m.seen(kind, mut)
	if len(names) == 0 {
		return ""
	}
	return names[m.Intn(len(names))]
}

func (m *texter) within(make func() string) string {
	count := len(m.names)
	text := make()
	m.names = m.names[:count]
	return text
}

// any is one of some texts, which are made only then.
func (m *texter) any(makers ...func() string) string {
	return makers[m.Intn(len(makers))]()
}

// value is an expression of a type that is Copy.
func (m *texter) value(kind string) string {
	m.left--
	if m.left <= 0 || m.Intn(4) == 0 {
		if name := m.one(kind, false); name != "" {
			return name
		}
		return m.plain(kind)
	}
	switch m.Intn(14) {
	case 0:
		return "(if " + m.value("bool") + " " + m.block(kind) + " else " + m.block(kind) + ")"
	case 1, 2:
		return "(" + m.match(kind) + ")"
	case 3:
		return "(" + m.block(kind) + ")"
	case 4:
		return m.any(func() string { return "id(" + m.value(kind) + ")" }, func() string { return "sum::<" + kind + ">(" + m.value(kind) + ", " + m.value("int") + ").0" })
	case 5:
		return m.any(func() string { return "(" + m.value(kind) + ", " + m.value(m.copied()) + ").0" }, func() string { return "make S { c: " + m.value("int") + ", a: " + m.value(kind) + " }.a" })
	case 6:
		return m.any(func() string { return "(*&" + m.value(kind) + ")" }, func() string { return "(*&mut " + m.value(kind) + ")" }, func() string { return "*boxed(" + m.value(kind) + ")" })
	case 7:
		return "unbox(boxed(" + m.value(kind) + "))"
	case 8:
		if name := m.one(kind, true); name != "" {
			return "replace(&mut " + name + ", " + m.value(kind) + ")"
		}
	case 9:
		return "(" + m.closure("fn once", "int", kind) + ")(" + m.value("int") + ")"
	case 10:
		if m.Intn(6) == 0 {
			return m.slip()
		}
	}
	return m.plain(kind)
}

// slip goes elsewhere.
func (m *texter) slip() string {
	if m.loops > 0 && m.Intn(2) == 0 {
		return []string{"break", "next"}[m.Intn(2)]
	}
	if m.Intn(3) == 0 {
		return "panic"
	}
	return "(return " + m.value(m.out) + ")"
}

// plain is an expression that is made of the parts of its type.
func (m *texter) plain(kind string) string {
	switch kind {
	case "int":
		return m.number()
	case "bool":
		return m.truth()
	case "(int, bool)":
		return "(" + m.value("int") + ", " + m.value("bool") + ")"
	case "Option<int>":
		return m.any(func() string { return "Option::None::<int>" }, func() string { return "Option::Some(" + m.value("int") + ")" })
	case "F":
		return m.any(func() string { return "F::A" }, func() string { return "F::B(" + m.value("int") + ", " + m.value("bool") + ")" }, func() string { return "F::C(" + m.value("(int, bool)") + ")" })
	case "S<int>":
		return m.any(func() string { return "make S { a: " + m.value("int") + ", c: " + m.value("int") + " }" }, func() string { return "make S { c: " + m.value("int") + ", a: " + m.value("int") + " }" })
	}
	return "boxed(" + m.value("int") + ")"
}

func (m *texter) number() string {
	if m.left <= 0 {
		return fmt.Sprint(m.Intn(9))
	}
	part := func(kind, text string) func() string {
		return func() string {
			if name := m.one(kind, false); name != "" {
				return strings.ReplaceAll(text, "x", name)
			}
			return fmt.Sprint(m.Intn(4))
		}
	}
	return m.any(
		func() string { return fmt.Sprint(m.Intn(9)) },
		func() string { return "(-" + m.value("int") + ")" },
		func() string {
			return "(" + m.value("int") + []string{" + ", " - ", " * ", " / ", " % "}[m.Intn(5)] + m.value("int") + ")"
		},
		func() string { return "T1::t(&" + m.value("int") + ", " + m.value("int") + ")" },
		part("(int, bool)", "x.0"), part("S<int>", "x.c"), part("Box<int>", "*x"), part("Box<int>", "*x"), part("fn(int) -> int", "x(3)"), part("fn(int) -> int", "x(3)"),
	)
}

func (m *texter) truth() string {
	if m.left <= 0 {
		return []string{"true", "false"}[m.Intn(2)]
	}
	return m.any(
		func() string { return []string{"true", "false"}[m.Intn(2)] },
		func() string { return "(!" + m.value("bool") + ")" },
		func() string {
			return "(" + m.value("int") + []string{" < ", " <= ", " > ", " >= ", " == ", " != "}[m.Intn(6)] + m.value("int") + ")"
		},
		func() string {
			return "(" + m.value("bool") + []string{" && ", " || ", " == "}[m.Intn(3)] + m.value("bool") + ")"
		},
		func() string {
			return "(" + m.value("bool") + []string{" && ", " || "}[m.Intn(2)] + m.value("bool") + ")"
		},
	)
}

// block is a block that gives a value of a type, or with "" nothing.
func (m *texter) block(kind string) string {
	return m.within(func() string {
		text := "{ "
		for range m.Intn(3) {
			text += m.statement()
		}
		if kind != "" {
			text += m.value(kind)
		}
		return text + " }"
	})
}

func (m *texter) statement() string {
	if m.left <= 0 {
		return "out(" + m.value("int") + "); "
	}
	kind := m.copied()
	switch m.Intn(13) {
	case 0, 1:
		value := m.value(kind)
		return "let mut " + m.name(kind, true) + " = " + value + "; "
	case 2:
		return m.later(kind)
	case 3:
		value := m.plain("Box<int>")
		return "let mut " + m.name("Box<int>", true) + " = " + value + "; "
	case 4:
		value := m.closure([]string{"fn", "fn mut"}[m.Intn(2)], "int", "int")
		if strings.HasPrefix(value, "fn mut") {
			return "(" + value + ")(" + m.value("int") + "); "
		}
		return "let " + m.name("fn(int) -> int", false) + " = " + value + "; "
	case 5, 6:
		return m.assign(kind)
	case 7, 8:
		return m.loop()
	case 9:
		text := "if " + m.value("bool") + " " + m.block("")
		if m.Intn(2) == 0 {
			text += " else if " + m.value("bool") + " " + m.block("") + " else " + m.block("")
		}
		return text + " "
	case 10:
		return m.match([]string{"", "", kind}[m.Intn(3)]) + "; "
	case 11:
		return m.thread()
	}
	return m.any(func() string { return m.value(kind) + "; " }, func() string { return "out(" + m.value("int") + "); " })
}

// later is a variable that gets its value behind its `let`.
func (m *texter) later(kind string) string {
	first, second := m.value(kind), m.value(kind)
	condition := m.value("bool")
	name := m.name(kind, false)
	return "let " + name + ": " + kind + "; if " + condition + " { " + name + " = " + first + "; } else { " + name + " = " + second + "; } "
}

func (m *texter) assign(kind string) string {
	if name := m.one("Box<int>", true); name != "" && m.Intn(3) == 0 {
		return m.any(func() string { return "*" + name + " = " + m.value("int") + "; " }, func() string { return name + " = " + m.plain("Box<int>") + "; " })
	}
	if name := m.one("S<int>", true); name != "" && m.Intn(3) == 0 {
		return name + []string{".a", ".c"}[m.Intn(2)] + " = " + m.value("int") + "; "
	}
	name := m.one(kind, true)
	if name == "" {
		return "out(" + m.value("int") + "); "
	}
	if kind == "(int, bool)" && m.Intn(2) == 0 {
		return name + ".1 = " + m.value("bool") + "; "
	}
	return name + " = " + m.value(kind) + "; "
}

// loop takes a few turns at most.
func (m *texter) loop() string {
	return m.within(func() string {
		m.count++
		turns := fmt.Sprint("i", m.count)
		m.names = append(m.names, known{turns, "turns", false})
		text := "let mut " + turns + " = 0; "
		head := turns + " = " + turns + " + 1; "
		var top string
		if m.Intn(2) == 0 {
			top = "while " + turns + " < 3 && " + m.value("bool") + " { "
		} else {
			top = "loop { if " + turns + " > 2 { break; } "
		}
		m.loops++
		body := m.within(func() string {
			body := ""
			for range 1 + m.Intn(3) {
				body += m.statement()
				if m.Intn(4) == 0 {
					body += "if " + m.value("bool") + " { " + m.statement() + m.slip() + "; } "
				}
			}
			return body
		})
		m.loops--
		return text + top + head + body + "} "
	})
}

// match takes something apart; with "" as its type it gives nothing.
func (m *texter) match(kind string) string {
	of := m.copied()
	arm := func(pattern string, names ...known) string {
		return m.within(func() string {
			for _, name := range names {
				pattern = strings.Replace(pattern, "?", m.other(name.kind, name.mut), 1)
			}
			if kind == "" {
				return pattern + " => " + m.block("") + ", "
			}
			return pattern + " => " + m.value(kind) + ", "
		})
	}
	number, truth := known{kind: "int"}, known{kind: "bool", mut: true}
	matched := m.value(of)
	switch of {
	case "int":
		return "match " + matched + " { " + arm(fmt.Sprint(m.Intn(5)-2)) + arm("7") + arm("?", number) + "}"
	case "bool":
		return "match " + matched + " { " + arm("true") + arm("false") + "}"
	case "(int, bool)":
		return "match " + matched + " { " + arm("(1, ?)", truth) + arm("(ref ?, true)", known{kind: "ref"}) + arm("(?, mut ?)", number, truth) + "}"
	case "Option<int>":
		return "match " + matched + " { " + arm("Option::Some(2)") + arm("Option::Some(?)", number) + arm("Option::None") + "}"
	case "F":
		return "match " + matched + " { " + arm("F::A") + arm("F::C((0, ?))", truth) + arm("F::B(mut ?, true)", known{kind: "int", mut: true}) + arm("F::B(_, ?)", truth) + arm("F::C(?)", known{kind: "(int, bool)"}) + "}"
	}
	return "match " + matched + " { " + arm("mut ?", known{kind: of, mut: true}) + "}"
}

// inside makes a body of its own, in which some of the names in sight are captured.
func (m *texter) inside(out string, refs bool, make func(captures string) string) string {
	names, loops, was := m.names, m.loops, m.out
	var captures []string
	var inner []known
	hidden := map[string]int{}
	for i := len(names) - 1; i >= 0; i-- {
		k := names[i]
		hidden[k.name]++
		if hidden[k.name] > 1 || m.Intn(3) > 0 || k.kind == "turns" || k.kind == "ref" || strings.HasPrefix(k.kind, "&") || strings.HasPrefix(k.kind, "Box") || strings.HasPrefix(k.kind, "fn") {
			continue
		}
		switch m.Intn(3) {
		case 0:
			if refs && k.mut {
				captures, inner = append(captures, "&mut "+k.name), append(inner, known{k.name, "&mut " + k.kind, false})
				continue
			}
		case 1:
			if refs {
				captures, inner = append(captures, "&"+k.name), append(inner, known{k.name, "&" + k.kind, false})
				continue
			}
		}
		captures, inner = append(captures, k.name), append(inner, known{k.name, k.kind, false})
	}
	m.names, m.loops, m.out = inner, 0, out
	text := make("[" + strings.Join(captures, ", ") + "]")
	m.names, m.loops, m.out = names, loops, was
	return text
}

// closure is a closure of one parameter. What it changes and reads by references stands first in its body.
func (m *texter) closure(word, in, out string) string {
	return m.inside(out, true, func(captures string) string {
		head := ""
		for _, k := range m.names {
			if k.kind == "&int" {
				head += "out(*" + k.name + "); "
			}
			if k.kind == "&mut int" && word != "fn" {
				head += "*" + k.name + " = *" + k.name + " + " + m.value("int") + "; "
			}
		}
		param := m.other(in, false)
		return word + captures + "(" + param + ": " + in + ") -> " + out + " { " + head + m.value(out) + " }"
	})
}

// thread is a thread that is waited for.
func (m *texter) thread() string {
	kind := m.copied()
	body := m.inside(kind, false, func(captures string) string { return "spawn" + captures + " -> " + kind + " " + m.block(kind) })
	return "match join(" + body + ") { Option::Some(_) => { out(1); }, Option::None => { out(0); } } "
}

// text is a text with a made function, which is its first one.
func (m *texter) text() string {
	m.out = m.copied()
	m.names = []known{{"n", "int", false}, {"b", "bool", true}, {"p", "(int, bool)", true}}
	body := "{ "
	for range 2 + m.Intn(4) {
		body += m.statement()
	}
	return "mod main { fn f(n: int, mut b: bool, mut p: (int, bool)) -> " + m.out + " " + body + m.value(m.out) + " } " +
		"copy enum F { A, B(int, bool), C((int, bool)) } copy struct S<T> { a: T, c: int } fn id<T>(x: T) -> T { x } fn sum<T: Copy>(x: T, y: int) -> (T, int) { let z = x; (z, y + 1) } " +
		"trait T1 { fn t(self: &Self, x: int) -> int; } impl T1 for bool { fn t(self: &bool, x: int) -> int { 0 } } impl T1 for int { fn t(self: &int, x: int) -> int { *self * 2 + x } } fn main(n: int) -> int { n } }"
}
