package borrow

import (
	"fmt"
	"math/rand"
	"strings"
	"testing"

	"holdfast/api"
)

// known is a name in sight of a made text, and its type.
type known struct {
	name, kind string
}

// texter makes up functions that have types, and mostly have what they use, but lend whatever they come upon.
type texter struct {
	*rand.Rand
	names []known
	count int // of the names that it has given
	loops int // around
	left  int // how many expressions it may still make
	gives string
}

// head is how a made function begins: its parameters, and what it gives.
type head struct {
	text, names, gives string
}

var heads = []head{
	{"fn f(mut n: int) -> int", "n int", "int"},
	{"fn f<'a, 'b>(mut n: int, mut a: &'a int, mut b: &'b int) -> &'a int", "n int; a &int; b &int", "&int"},
	{"fn f<'a, 'b: 'a>(mut n: int, mut a: &'a int, mut b: &'b int, mut c: Cell<&'a int>) -> &'a int", "n int; a &int; b &int; c Cell<&int>", "&int"},
	{"fn f<'a, 'b>(mut n: int, mut a: &'a mut &'b int, mut b: &'b int) -> &'a int", "n int; a &mut &int; b &int", "&int"},
	{"fn f<'a, 'b>(mut n: int, mut a: &'a mut int, mut h: H<'b>) -> &'a mut int", "n int; a &mut int; h H", "&mut int"},
	{"fn f<'a, 'b>(mut n: int, mut p: P<'a, 'b>, mut v: Vec<&'b int>) -> &'a int", "n int; p P; v Vec<&int>", "&int"},
	{"fn f<'a, T: Copy>(mut n: int, mut t: &'a T, mut u: T, mut r: &'static int) -> &'a T", "n int; t &T; u T; r &int", "&T"},
	{"fn f<'a, 'b, T: Copy + 'a>(mut n: int, mut k: &'b &'a int, mut u: T) -> fn 'a() -> int", "n int; k &&int; u T", "fn() -> int"},
	{"fn f<'a>(mut n: int, mut g: G<'a>, mut o: Option<&'a mut int>) -> Option<&'a mut int>", "n int; g G; o Option<&mut int>", "Option<&mut int>"},
}

// kindsOfValues are the types of made values.
var kindsOfValues = []string{"int", "int", "bool", "&int", "&int", "&mut int", "&mut int", "Box<int>", "Box<&int>", "(&int, int)", "(&mut int, Box<int>)", "H", "G", "M", "K", "W<&int>", "Option<&int>", "Option<&mut int>", "Vec<&int>", "Cell<&int>", "&&int", "&mut &int", "fn() -> int", "fn mut() -> int", "RefCell<int>", "Ref<int>", "P"}

func (m *texter) kind() string {
	return kindsOfValues[m.Intn(len(kindsOfValues))]
}

func (m *texter) one(of ...string) string {
	return of[m.Intn(len(of))]
}

func (m *texter) name(kind string) string {
	m.count++
	name := fmt.Sprint("v", m.count)
	m.names = append(m.names, known{name, kind})
	return name
}

func (m *texter) within(make func() string) string {
	names := m.names
	text := make()
	m.names = names[:len(names):len(names)]
	return text
}

// parts are the places of a type that begin with a name of another one: all, or those that may be changed.
func parts(name, of, kind string, mut bool) []string {
	var out []string
	if of == kind {
		out = append(out, name)
	}
	if of[0] == '&' && !strings.HasPrefix(of, "&mut") && mut {
		return out
	}
	deeper := map[string][][2]string{
		"&int": {{"(*%s)", "int"}}, "&mut int": {{"(*%s)", "int"}}, "Box<int>": {{"(*%s)", "int"}}, "Box<&int>": {{"(*%s)", "&int"}}, "(&int, int)": {{"%s.0", "&int"}, {"%s.1", "int"}}, "(&mut int, Box<int>)": {{"%s.0", "&mut int"}, {"%s.1", "Box<int>"}},
		"H": {{"%s.r", "&int"}}, "G": {{"%s.r", "&int"}}, "M": {{"%s.r", "&mut int"}}, "K": {{"%s.r", "&mut int"}}, "W<&int>": {{"%s.x", "&int"}}, "&&int": {{"(*%s)", "&int"}}, "&mut &int": {{"(*%s)", "&int"}}, "P": {{"%s.x", "&int"}, {"%s.y", "&mut &int"}}, "&T": {{"(*%s)", "T"}},
	}
	for _, part := range deeper[of] {
		out = append(out, parts(fmt.Sprintf(part[0], name), part[1], kind, mut)...)
	}
	return out
}

// place is a place of a type, or "".
func (m *texter) place(kind string, mut bool) string {
	var all []string
	for _, k := range m.names {
		all = append(all, parts(k.name, k.kind, kind, mut)...)
	}
	if len(all) == 0 {
		return ""
	}
	return all[m.Intn(len(all))]
}

// isCopy says whether a value of a type is there still when it has been used.
func isCopy(kind string) bool {
	return strings.Contains(" int bool &int &&int (&int, int) Option<&int> H W<&int> T &T ", " "+kind+" ")
}

// value is an expression of a type.
func (m *texter) value(kind string) string {
	m.left--
	if place := m.place(kind, false); place != "" && (isCopy(kind) && m.Intn(2) == 0 || m.Intn(25) == 0) {
		return place
	}
	if m.left < 0 {
		return m.fresh(kind)
	}
	if place := m.place("fn() -> int", false); kind == "int" && place != "" && m.Intn(3) == 0 {
		return place + "()"
	}
	switch m.Intn(14) {
	case 0:
		return "(if " + m.value("bool") + " " + m.block(kind) + " else " + m.block(kind) + ")"
	case 1:
		return "id(" + m.value(kind) + ")"
	case 2:
		return "(" + m.block(kind) + ")"
	case 3:
		return "(" + m.value(kind) + ", " + m.value(m.kind()) + ").0"
	case 4:
		if place := m.place(kind, true); place != "" {
			return "replace(&mut " + place + ", " + m.value(kind) + ")"
		}
	case 5:
		return "(" + m.match(kind) + ")"
	}
	return m.fresh(kind)
}

// lent is a reference to a place of a type, or to a value that is made for it.
func (m *texter) lent(sign, kind string) string {
	if place := m.place(kind, sign == "&mut "); place != "" {
		return sign + place
	}
	return sign + m.fresh(kind)
}

// fresh is an expression that makes a new value.
func (m *texter) fresh(kind string) string {
	few := m.left <= 0
	switch kind {
	case "int":
		if few || m.Intn(3) == 0 {
			return fmt.Sprint(m.Intn(9))
		}
		return m.number()
	case "bool":
		return "(" + m.value("int") + " < 3)"
	case "&int":
		if few || m.Intn(2) == 0 {
			return m.lent("&", "int")
		}
		return m.reference()
	case "&mut int":
		if few || m.Intn(4) > 0 {
			return m.lent("&mut ", "int")
		}
		return "pass(" + m.value(kind) + ")"
	case "Box<int>", "Box<&int>":
		return "boxed(" + m.value(kind[4:len(kind)-1]) + ")"
	case "(&int, int)":
		return "(" + m.value("&int") + ", " + m.value("int") + ")"
	case "(&mut int, Box<int>)":
		return "(" + m.value("&mut int") + ", " + m.value("Box<int>") + ")"
	case "H", "G":
		return "make " + kind + " { r: " + m.value("&int") + " }"
	case "M", "K":
		return "make " + kind + " { r: " + m.value("&mut int") + " }"
	case "W<&int>":
		return "make W { x: " + m.value("&int") + " }"
	case "P":
		return "make P { x: " + m.value("&int") + ", y: " + m.value("&mut &int") + " }"
	case "T", "&T":
		return m.lent(kind[:len(kind)-1], "T")
	}
	return m.freshHolder(kind)
}

// freshHolder is an expression that makes a new value of std, or a closure.
func (m *texter) freshHolder(kind string) string {
	switch kind {
	case "Option<&int>", "Option<&mut int>":
		return "Option::Some(" + m.value(kind[7:len(kind)-1]) + ")"
	case "Vec<&int>":
		return "vec::<&int>()"
	case "Cell<&int>":
		return "cell(" + m.value("&int") + ")"
	case "&&int":
		return m.lent("&", "&int")
	case "&mut &int":
		return m.lent("&mut ", "&int")
	case "RefCell<int>":
		return "refcell(" + m.value("int") + ")"
	case "Ref<int>":
		return "borrow(" + m.lent("&", "RefCell<int>") + ")"
	case "fn mut() -> int":
		for _, k := range m.names {
			if k.kind == "int" && m.Intn(2) == 0 {
				return "fn mut[&mut " + k.name + "]() -> int { *" + k.name + " = 2; *" + k.name + " }"
			}
		}
		return "fn mut[]() -> int { 1 }"
	}
	for _, k := range m.names {
		switch {
		case m.Intn(3) > 0:
		case k.kind == "int":
			return "fn[&" + k.name + "]() -> int { *" + k.name + " }"
		case k.kind == "&int":
			return "fn[" + k.name + "]() -> int { *" + k.name + " }"
		case k.kind == "T":
			return "fn[" + k.name + "]() -> int { 1 }"
		}
	}
	return "fn[]() -> int { 1 }"
}

func (m *texter) number() string {
	switch m.Intn(8) {
	case 0:
		return "*" + m.value("&int")
	case 1:
		return "len(" + m.lent("&", "Vec<&int>") + ")"
	case 2:
		return "Tr::get(" + m.value("&int") + ", " + m.value("&int") + ")"
	case 3:
		return "(-" + m.value("int") + ")"
	}
	return "(" + m.value("int") + m.one(" + ", " / ", " * ") + m.value("int") + ")"
}

func (m *texter) reference() string {
	a, b := m.value("&int"), m.value("&int")
	switch m.Intn(10) {
	case 0:
		return "*at(" + m.lent("&", "Vec<&int>") + ", 0)"
	case 1:
		return "get(" + m.lent("&", "Cell<&int>") + ")"
	case 2:
		return "ref_get(" + m.lent("&", "Ref<int>") + ")"
	case 3:
		return "Tr::first(" + a + ", " + b + ")"
	case 4:
		return "Tr::same(" + a + ")"
	case 5:
		return m.lent("&*", "&mut int")
	}
	return m.one("big", "one", "long") + "(" + a + ", " + b + ")"
}

func (m *texter) block(kind string) string {
	return m.within(func() string {
		text := "{ "
		for range m.Intn(3) {
			text += m.statement()
		}
		if kind != "" {
			text += m.value(kind)
		}
		return text + " }"
	})
}

// match takes an Option or a tuple apart; with "" as its type it gives nothing.
func (m *texter) match(kind string) string {
	arm := func(pattern, inner string) string {
		return m.within(func() string {
			if inner != "" {
				pattern = strings.Replace(pattern, "?", "mut "+m.name(inner), 1)
				pattern = strings.Replace(pattern, "ref mut mut", "ref mut", 1)
			}
			if kind == "" {
				return pattern + " => " + m.block("") + ", "
			}
			return pattern + " => " + m.value(kind) + ", "
		})
	}
	of := func(kind string) string {
		if place := m.place(kind, true); place != "" {
			return place
		}
		return m.value(kind)
	}
	switch m.Intn(5) {
	case 0:
		return "match " + of("Option<&int>") + " { " + arm("Option::Some(?)", "&int") + arm("Option::None", "") + "}"
	case 1:
		return "match " + of("Option<&int>") + " { " + arm("Option::Some(ref mut ?)", "&mut &int") + arm("Option::None", "") + "}"
	case 2:
		return "match " + m.value("Option<&mut int>") + " { " + arm("Option::Some(?)", "&mut int") + arm("Option::None", "") + "}"
	case 3:
		return "match " + of("(&int, int)") + " { " + arm("(_, ref mut ?)", "&mut int") + "}"
	}
	return "match " + m.value("int") + " { " + arm("1", "") + arm("?", "int") + "}"
}

func (m *texter) statement() string {
	if m.left <= 0 {
		return "eat(" + m.value(m.one("int", "&int", "&mut int")) + "); "
	}
	kind := m.kind()
	switch m.Intn(17) {
	case 0, 1, 2, 3:
		value := m.value(kind)
		return "let mut " + m.name(kind) + ": " + kind + " = " + value + "; "
	case 4, 5, 6, 7:
		if place := m.place(kind, true); place != "" {
			return place + " = " + m.value(kind) + "; "
		}
		return "eat(" + m.value(kind) + "); "
	case 8:
		return m.filling()
	case 9:
		return "if " + m.value("bool") + " " + m.block("") + m.one("", " else "+m.block("")) + " "
	case 10, 11:
		return m.loop()
	case 12:
		return m.match("") + " "
	case 13:
		ways := []string{"panic", "return " + m.value(m.gives)}
		if m.loops > 0 {
			ways = append(ways, "break", "next", "break")
		}
		return "if " + m.value("bool") + " { " + m.within(m.statement) + m.one(ways...) + "; } "
	case 14:
		first, second := m.value(kind), m.value(kind)
		name := m.name(kind)
		return "let mut " + name + ": " + kind + "; if " + m.value("bool") + " { " + name + " = " + first + "; } else { " + name + " = " + second + "; } "
	case 15:
		if m.Intn(3) == 0 {
			value := m.value("fn mut() -> int")
			return "let mut " + m.name("fn mut() -> int") + ": fn mut() -> int = " + value + "; " + fmt.Sprint("v", m.count) + "(); "
		}
		if m.Intn(3) == 0 {
			return "{ let s = " + m.value(m.one("int", "int", "&int")) + "; spawn[s] -> int { 1 }; } "
		}
		return m.block("") + " "
	}
	return "eat(" + m.value(kind) + "); "
}

// filling puts a reference into something that keeps it.
func (m *texter) filling() string {
	switch m.Intn(4) {
	case 0:
		return "push(" + m.lent("&mut ", "Vec<&int>") + ", " + m.value("&int") + "); "
	case 1:
		return "set(" + m.lent("&", "Cell<&int>") + ", " + m.value("&int") + "); "
	case 2:
		return "put(" + m.value("&mut &int") + ", " + m.value("&int") + "); "
	}
	return "pop(" + m.lent("&mut ", "Vec<&int>") + "); "
}

func (m *texter) loop() string {
	// A loop that nothing leads out of has no type.
	text := "loop { if " + m.value("bool") + " { break; } "
	if m.Intn(3) > 0 {
		text = "while " + m.value("bool") + " { "
	}
	m.loops++
	text += m.block("") + " } "
	m.loops--
	return text
}

// text is a text with a made function.
func (m *texter) text() string {
	items := strings.TrimPrefix(strings.TrimSuffix(before, "fn main(n: int) -> int { "), "mod main { ")
	items = strings.NewReplacer("struct H", "copy struct H", "struct W", "copy struct W").Replace(items)
	h := heads[m.Intn(len(heads))]
	for param := range strings.SplitSeq(h.names, "; ") {
		name, kind, _ := strings.Cut(param, " ")
		m.names = append(m.names, known{name, kind})
	}
	m.gives = h.gives
	body := ""
	for range 1 + m.Intn(5) {
		body += m.statement()
	}
	return "mod main { " + h.text + " { " + body + m.value(h.gives) + " } struct P<'a, 'b> { x: &'a int, y: &'b mut &'a int } " + items + " fn main(n: int) -> int { n } }"
}

// P24 to P26, P34: made texts.
func TestMadeTexts(t *testing.T) {
	faults, texts, ops, loans := map[api.Errno]int{}, 0, map[int]int{}, 0
	for seed := range int64(900) {
		m := &texter{Rand: rand.New(rand.NewSource(seed)), left: 4 + int(seed%20)}
		text := m.text()
		p, fault := made(text)
		if fault.Kind != api.OK {
			if fault.Kind < api.ErrHole {
				t.Errorf("%q: %v: %.20s", text, fault, text[fault.At:])
			}
			continue
		}
		texts++
		faults[holdProgram(t, text, p).Kind]++
		if seed%10 == 0 {
			holdAlone(t, text, p)
		}
		loans += len(Lend(p, 0).Loans)
		for _, i := range p.Fns[0].Code {
			ops[i.Op]++
		}
	}
	// Without these there would be nothing to see.
	if texts < 800 || loans < 3000 {
		t.Error("texts:", texts, "loans:", loans)
	}
	if faults[api.OK] < 200 || faults[api.ErrLoan] < 200 || faults[api.ErrLives] < 20 {
		t.Error("faults:", faults)
	}
	for op := range api.IResume {
		if ops[op] < 20 {
			t.Error(words[op], ops[op])
		}
	}
}
