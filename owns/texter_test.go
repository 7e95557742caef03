package owns

import (
	"fmt"
	"math/rand"
	"strings"
	"testing"

	"holdfast/api"
	"holdfast/graph"
)

// known is a name in sight of a made text, and its type.
type known struct {
	name, kind string
}

// texter makes up functions that have types, but give and move whatever they come upon.
type texter struct {
	*rand.Rand
	names []known
	count int // of the names that it has given
	loops int // around
	left  int // how many expressions it may still make
}

// kinds are the types of made values.
var kinds = []string{"int", "bool", "Box<int>", "(Box<int>, int)", "P", "D", "Option<Box<int>>", "&mut Box<int>"}

func (m *texter) kind() string {
	return kinds[m.Intn(len(kinds))]
}

func (m *texter) name(kind string) string {
	m.count++
	name := fmt.Sprint("v", m.count)
	m.names = append(m.names, known{name, kind})
	return name
}

func (m *texter) within(make func() string) string {
	names := m.names
	text := make()
	m.names = names[:len(names):len(names)]
	return text
}

// parts are the places of a type that begin with a name of another one.
func parts(name, of, kind string) []string {
	var out []string
	if of == kind {
		out = append(out, name)
	}
	deeper := map[string][][2]string{
		"Box<int>": {{"(*%s)", "int"}}, "(Box<int>, int)": {{"%s.0", "Box<int>"}, {"%s.1", "int"}}, "P": {{"%s.a", "Box<int>"}, {"%s.q", "(Box<int>, int)"}, {"%s.d", "D"}}, "D": {{"%s.b", "Box<int>"}, {"%s.i", "int"}},
		"&mut Box<int>": {{"(*%s)", "Box<int>"}}, "&P": {{"(*%s)", "P"}}, "Box<P>": {{"(*%s)", "P"}},
	}
	for _, part := range deeper[of] {
		out = append(out, parts(fmt.Sprintf(part[0], name), part[1], kind)...)
	}
	return out
}

// place is a place of a type, or "".
func (m *texter) place(kind string) string {
	var all []string
	careful := m.Intn(8) > 0
	for _, k := range m.names {
		// What is not Copy cannot be moved out of these.
		if careful && (k.kind == "&P" || k.kind == "Box<P>" || k.kind == "D") && kind != k.kind && kind != "int" {
			continue
		}
		all = append(all, parts(k.name, k.kind, kind)...)
	}
	if len(all) == 0 {
		return ""
	}
	// What came last has mostly not gone yet.
	return all[max(m.Intn(len(all)), m.Intn(len(all)))]
}

// value is an expression of a type.
func (m *texter) value(kind string) string {
	m.left--
	if place := m.place(kind); place != "" && m.Intn(2) == 0 {
		return place
	}
	if m.left < 0 {
		return m.fresh(kind)
	}
	switch m.Intn(12) {
	case 0:
		return "(if " + m.value("bool") + " " + m.block(kind) + " else " + m.block(kind) + ")"
	case 1:
		return "(" + m.match(kind) + ")"
	case 2:
		return "id(" + m.value(kind) + ")"
	case 3:
		return "(" + m.block(kind) + ")"
	case 4:
		return "(" + m.value(kind) + ", " + m.value(m.kind()) + ").0"
	case 5:
		if place := m.place(kind); place != "" {
			return "replace(&mut " + place + ", " + m.value(kind) + ")"
		}
	}
	return m.fresh(kind)
}

// fresh is an expression that makes a new value.
func (m *texter) fresh(kind string) string {
	switch kind {
	case "int":
		if m.left > 0 && m.Intn(2) == 0 {
			return "(" + m.value("int") + []string{" + ", " / "}[m.Intn(2)] + m.value("int") + ")"
		}
		return fmt.Sprint(m.Intn(9))
	case "bool":
		if m.left > 0 && m.Intn(2) == 0 {
			return "(" + m.value("bool") + []string{" && ", " || "}[m.Intn(2)] + m.value("bool") + ")"
		}
		return "(" + m.value("int") + " < 3)"
	case "Box<int>":
		return "boxed(" + m.value("int") + ")"
	case "(Box<int>, int)":
		return "(" + m.value("Box<int>") + ", " + m.value("int") + ")"
	case "P":
		return "make P { q: " + m.value("(Box<int>, int)") + ", d: " + m.value("D") + ", a: " + m.value("Box<int>") + " }"
	case "D":
		return "make D { b: " + m.value("Box<int>") + ", i: 1 }"
	case "Option<Box<int>>":
		return "Option::Some(" + m.value("Box<int>") + ")"
	}
	if place := m.place("Box<int>"); place != "" {
		return "&mut " + place
	}
	return "&mut boxed(1)"
}

func (m *texter) block(kind string) string {
	return m.within(func() string {
		text := "{ "
		for range m.Intn(3) {
			text += m.statement()
		}
		if kind != "" {
			text += m.value(kind)
		}
		return text + " }"
	})
}

// match takes an Option apart, by value or by a reference; with "" as its type it gives nothing.
func (m *texter) match(kind string) string {
	of := m.value("Option<Box<int>>")
	arm := func(pattern, inner string) string {
		return m.within(func() string {
			if inner != "" {
				pattern = strings.Replace(pattern, "?", m.name(inner), 1)
			}
			if kind == "" {
				return pattern + " => " + m.block("") + ", "
			}
			return pattern + " => " + m.value(kind) + ", "
		})
	}
	some := [][2]string{{"Option::Some(?)", "Box<int>"}, {"Option::Some(mut ?)", "Box<int>"}, {"Option::Some(ref mut ?)", "&mut Box<int>"}, {"Option::Some(_)", ""}}[m.Intn(4)]
	return "match " + of + " { " + arm(some[0], some[1]) + arm("Option::None", "") + "}"
}

func (m *texter) statement() string {
	if m.left <= 0 {
		return m.value("int") + "; "
	}
	kind := m.kind()
	switch m.Intn(13) {
	case 0, 1, 2:
		value := m.value(kind)
		return "let " + []string{"", "mut "}[m.Intn(2)] + m.name(kind) + " = " + value + "; "
	case 3:
		return "let " + []string{"", "mut "}[m.Intn(2)] + m.name(kind) + ": " + kind + "; "
	case 4, 5:
		value := m.value(kind)
		if place := m.place(kind); place != "" {
			return place + " = " + value + "; "
		}
		return value + "; "
	case 11:
		return m.later(kind)
	case 6:
		return "if " + m.value("bool") + " " + m.block("") + []string{"", " else " + m.block("")}[m.Intn(2)] + " "
	case 7:
		return m.loop()
	case 8:
		return m.match("") + " "
	case 9:
		way := []string{"panic", "return 1", "break", "next"}[m.Intn(2+2*min(1, m.loops))]
		return "if " + m.value("bool") + " { " + m.within(m.statement) + way + "; } "
	case 10:
		return m.closure()
	}
	return m.value(kind) + "; "
}

// later is a name that gets its value behind its `let`, perhaps never, perhaps twice.
func (m *texter) later(kind string) string {
	condition, first, second := m.value("bool"), m.value(kind), m.value(kind)
	name := m.name(kind)
	way := []string{"if C { X = V; } else { X = W; }", "if C { X = V; } X = W;", "while C { X = V; }", "X = V; if C { X = W; }", "if C { X = V; } else { return 1; }", "if C { X = V; return 2; } X = W;"}[m.Intn(6)]
	return "let " + name + ": " + kind + "; " + strings.NewReplacer("C", condition, "X", name, "V", first, "W", second).Replace(way) + " "
}

func (m *texter) loop() string {
	// A loop that nothing leads out of has no type.
	text := "loop { if " + m.value("bool") + " { break; } "
	if m.Intn(3) > 0 {
		text = "while " + m.value("bool") + " { "
	}
	m.loops++
	text += m.block("") + " } "
	m.loops--
	return text
}

// closure captures one name, in one of three ways, and uses it.
func (m *texter) closure() string {
	if len(m.names) == 0 {
		return ""
	}
	k := m.names[m.Intn(len(m.names))]
	way := m.Intn(3)
	if k.kind[0] == '&' && way > 0 {
		way = 0
	}
	names, loops := m.names, m.loops
	m.names, m.loops = nil, 0
	if way == 0 {
		m.names = []known{k}
	}
	if way == 1 && k.kind == "P" {
		m.names = []known{{k.name, "&P"}}
	}
	body := m.block("int")
	m.names, m.loops = names, loops
	return []string{"fn", "fn mut", "fn once"}[m.Intn(3)] + "[" + []string{"", "&", "&mut "}[way] + k.name + "]() -> int " + body + "; "
}

// text is a text with a made function.
func (m *texter) text() string {
	m.names = []known{{"n", "int"}, {"b", "Box<int>"}, {"p", "P"}, {"r", "&P"}, {"o", "Option<Box<int>>"}, {"t", "Box<P>"}}
	body := ""
	for range 2 + m.Intn(5) {
		body += m.statement()
	}
	return "mod main { fn f(n: int, b: Box<int>, mut p: P, r: &P, mut o: Option<Box<int>>, t: Box<P>) -> int { " + body + m.value("int") + " } struct P { a: Box<int>, q: (Box<int>, int), d: D } struct D { b: Box<int>, i: int } impl Drop for D { fn drop(self: &mut D) { } } fn id<T>(x: T) -> T { let y = x; y } fn main(n: int) -> int { n } }"
}

// P22, P23: made texts.
func TestMadeTexts(t *testing.T) {
	faults, texts := map[api.Errno]int{}, 0
	for seed := range int64(500) {
		m := &texter{Rand: rand.New(rand.NewSource(seed)), left: 4 + int(seed%20)}
		text := m.text()
		p, fault := made(text)
		if fault.Kind != api.OK {
			if fault.Kind == api.ErrSyntax || fault.Kind == api.ErrName || fault.Kind == api.ErrType {
				t.Errorf("%q: %v: %.20s", text, fault, text[fault.At:])
			}
			continue
		}
		texts++
		var all []api.Fault
		for n := range p.Fns {
			if graph.Check(p, n) != -1 {
				t.Errorf("%q: not well-formed", text)
			}
			all = append(all, holdFlow(t, text, p, n))
		}
		faults[holdCheck(t, text, p, all...).Kind]++
	}
	// Without these there would be nothing to see.
	if texts < 450 {
		t.Error("texts:", texts)
	}
	for _, kind := range []api.Errno{api.OK, api.ErrHole, api.ErrAgain, api.ErrMut, api.ErrMove} {
		if faults[kind] < 8 {
			t.Error("faults:", faults)
		}
	}
}
