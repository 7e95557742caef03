package run

import (
	"fmt"
	"math/rand"
	"slices"
	"strings"
	"testing"

	"holdfast/api"
)

// texter makes up bodies of main that have types. How careful it is says how often it keeps away from what has been moved; whether references are still good it does not ask.
type texter struct {
	*rand.Rand
	names []*seenName
	count int // of the names that it has given
	left  int // how many expressions it may still make in a statement
	room  int // how many statements it may still make
	loops int
	wild  int // one in so many times it does not care
	bold  bool
	gives string   // by the body around
	kinds []string // that it makes
	firm  bool     // what is lent is a place, if there is one
}

// seenName is a name in sight, its type, and whether its value has been moved.
type seenName struct {
	name, kind string
	spent      bool
}

// kindsOfValues are the types of made values.
var kindsOfValues = strings.Split("int int D D P E C Box<int> Box<D> Vec<int> Vec<D> &int &mut_int &D &mut_D &E &mut_E Rc<D> Rc<Cell<int>> Cell<int> RefCell<int> RefCell<D> Ref<int> RefMut<int> RefMut<D> Arc<int> Arc<D> Arc<Mutex<int>> Mutex<int> Mutex<D> Lock<int> Lock<D> Sender<int> Receiver<int> Sender<D> Receiver<D> (Sender<D>,_Receiver<D>) Handle<int> Handle<D> Option<int> Option<D> (D,_D) (int,_Box<int>) fn()_->_int fn_mut()_->_int fn_once()_->_D Slice<int> SliceMut<int> Rc<N> bool R F &Cell<int> &RefCell<int> &Mutex<int>", " ")

// kindsOfThreads are the types of what threads have to do with.
var kindsOfThreads = strings.Split("int D P Box<int> &int &mut_int Arc<int> Arc<D> Arc<Mutex<int>> Arc<Mutex<int>> Arc<Mutex<int>> Mutex<int> Lock<int> Sender<int> Receiver<int> Sender<D> (Sender<D>,_Receiver<D>) (Sender<D>,_Receiver<D>) Handle<int> Handle<int> Handle<int> Handle<D> Handle<D> Option<int> Option<D> fn_once()_->_D &Mutex<int> Vec<int>", " ")

// kindsOfCells are the types of cells, and of what keeps them.
var kindsOfCells = strings.Split("F F F F F F int Cell<int> RefCell<int> Mutex<int> Ref<int> RefMut<int> Lock<int> &Cell<int> &RefCell<int> &Mutex<int> Box<int> Rc<Cell<int>> D", " ")

func (m *texter) kind() string {
	return strings.ReplaceAll(m.kinds[m.Intn(len(m.kinds))], "_", " ")
}

// base is the type of what a value of a type is lent from, or "".
func base(kind string) string {
	switch {
	case strings.HasPrefix(kind, "&mut "):
		return kind[5:]
	case kind[0] == '&':
		return kind[1:]
	case strings.HasPrefix(kind, "Ref<"), strings.HasPrefix(kind, "RefMut<"):
		return "RefCell<" + inside(kind) + ">"
	case strings.HasPrefix(kind, "Lock<"):
		return "Mutex<" + inside(kind) + ">"
	case strings.HasPrefix(kind, "Slice"):
		return "Vec<int>"
	}
	return ""
}

func (m *texter) one(of ...string) string {
	return of[m.Intn(len(of))]
}

// either makes one of some texts, the first one when it may make no more.
func (m *texter) either(of ...func() string) string {
	if m.left <= 0 {
		return of[0]()
	}
	return of[m.Intn(len(of))]()
}

// say is a text, and what is put into it: %name for a value of a type, &name for a reference to one, &mut likewise.
func (m *texter) say(text string, kinds ...string) func() string {
	return func() string {
		var args []any
		for _, kind := range kinds {
			switch {
			case strings.HasPrefix(kind, "lend_mut "):
				args = append(args, m.lent("&mut ", kind[9:]))
			case strings.HasPrefix(kind, "lend "):
				args = append(args, m.lent("&", kind[5:]))
			default:
				args = append(args, m.value(kind))
			}
		}
		return fmt.Sprintf(text, args...)
	}
}

func (m *texter) name(kind string) string {
	m.count++
	name := fmt.Sprint("v", m.count)
	m.names = append(m.names, &seenName{name: name, kind: kind})
	return name
}

func (m *texter) within(make func() string) string {
	names := m.names
	text := make()
	m.names = names[:len(names):len(names)]
	return text
}

var copied = " int bool C &int &D &E &Cell<int> &RefCell<int> &Mutex<int> Option<int> Slice<int> "

func isCopy(kind string) bool {
	return strings.Contains(copied, " "+kind+" ")
}

// found is a name of a type, and how a part of it is written.
type found struct {
	*seenName
	text string
}

// parts are the places of a type in what a name leads to.
func (m *texter) parts(k *seenName, text, of, kind string) []found {
	var out []found
	if of == kind {
		out = append(out, found{k, text})
	}
	deeper := map[string][][2]string{
		"&int": {{"(*%s)", "int"}}, "&mut int": {{"(*%s)", "int"}}, "Box<int>": {{"(*%s)", "int"}}, "Box<D>": {{"(*%s)", "D"}}, "D": {{"%s.v", "int"}}, "P": {{"%s.v", "int"}}, "C": {{"%s.x", "int"}, {"%s.y", "int"}},
		"&D": {{"(*%s)", "D"}}, "&mut D": {{"(*%s)", "D"}}, "&E": {{"(*%s)", "E"}}, "&mut E": {{"(*%s)", "E"}}, "(D, D)": {{"%s.0", "D"}, {"%s.1", "D"}}, "(int, Box<int>)": {{"%s.0", "int"}, {"%s.1", "Box<int>"}},
		"(Sender<D>, Receiver<D>)": {{"%s.0", "Sender<D>"}, {"%s.1", "Receiver<D>"}}, "R": {{"%s.d", "D"}, {"%s.b", "Box<D>"}}, "&Cell<int>": {{"(*%s)", "Cell<int>"}}, "&RefCell<int>": {{"(*%s)", "RefCell<int>"}}, "&Mutex<int>": {{"(*%s)", "Mutex<int>"}},
	}
	for _, part := range deeper[of] {
		if part[0] == "(*%s)" && of[0] != '&' && !m.bold {
			continue
		}
		out = append(out, m.parts(k, fmt.Sprintf(part[0], text), part[1], kind)...)
	}
	return out
}

// place is a place of a type, or "". What is taken from it is gone.
func (m *texter) place(kind string, taken bool) string {
	var all []found
	for _, k := range m.names {
		if !k.spent || m.Intn(m.wild) == 0 {
			all = append(all, m.parts(k, k.name, k.kind, kind)...)
		}
	}
	if taken && !isCopy(kind) {
		// What a Drop, a reference or a box is around can be taken from only where nobody looks.
		all = slices.DeleteFunc(all, func(f found) bool {
			return m.Intn(m.wild) > 0 && (strings.Contains(f.text, "*") || f.kind == "R")
		})
	}
	if len(all) == 0 {
		return ""
	}
	one := all[m.Intn(len(all))]
	one.spent = one.spent || taken && !isCopy(kind)
	return one.text
}

// value is an expression of a type.
func (m *texter) value(kind string) string {
	m.left--
	if m.Intn(3) > 0 || m.left < 0 && isCopy(kind) {
		if place := m.place(kind, true); place != "" {
			return place
		}
	}
	if m.left > 0 {
		switch m.Intn(16) {
		case 0:
			return "(if " + m.value("bool") + " " + m.block(kind) + " else " + m.block(kind) + ")"
		case 1:
			return "id(" + m.value(kind) + ")"
		case 2:
			return "(" + m.block(kind) + ")"
		case 3:
			if place := m.place(kind, false); place != "" && kind[0] != '&' {
				return "replace(&mut " + place + ", " + m.value(kind) + ")"
			}
		case 4:
			return "(match " + m.value("Option<int>") + " { " + m.arm("Option::Some(?)", "int", kind) + m.arm("Option::None", "", kind) + "})"
		}
	}
	return m.fresh(kind)
}

// lent is a reference to a place of a type, or to a value that is made for it.
func (m *texter) lent(sign, kind string) string {
	if place := m.place(kind, false); place != "" && (m.firm || m.Intn(8) > 0) {
		return sign + place
	}
	return sign + m.fresh(kind)
}

// inside is the type between the brackets of a type.
func inside(kind string) string {
	return kind[strings.Index(kind, "<")+1 : len(kind)-1]
}

// fresh is an expression that makes a new value.
func (m *texter) fresh(kind string) string {
	switch kind {
	case "int":
		if m.left <= 0 || m.Intn(3) == 0 {
			return fmt.Sprint(m.Intn(9))
		}
		return m.number()
	case "bool":
		return "(" + m.value("int") + m.one(" < ", " == ", " >= ") + "3)"
	case "D":
		return "d(" + m.value("int") + ")"
	case "P":
		return "p(" + m.value("int") + ")"
	case "C":
		return "make C { x: " + m.value("int") + ", y: 2 }"
	case "R":
		return "make R { d: " + m.value("D") + ", b: " + m.value("Box<D>") + " }"
	case "E":
		return m.either(m.say("E::A(%s)", "int"), m.say("E::B(%s)", "Box<int>"), m.say("E::C(%s, 3)", "D"))
	case "F":
		return m.one("F::A(cell(1))", "F::B(2)", "F::C(refcell(3))", "F::M(mutex(4))", "F::G((5, 6))")
	case "&int", "&D", "&E", "&Cell<int>", "&RefCell<int>", "&Mutex<int>":
		return m.reference(kind)
	case "&mut int", "&mut D", "&mut E":
		return m.mutReference(kind)
	case "(D, D)", "(int, Box<int>)":
		a, b, _ := strings.Cut(kind[1:len(kind)-1], ", ")
		return "(" + m.value(a) + ", " + m.value(b) + ")"
	case "(Sender<D>, Receiver<D>)":
		return "chan::<D>()"
	case "Rc<N>":
		return m.either(m.say("rc(make N { v: %s, link: refcell(Option::None) })", "int"), m.say("rc(make N { v: 1, link: refcell(Option::Some(%s)) })", "Rc<N>"))
	}
	if strings.HasPrefix(kind, "fn") {
		return m.closure(kind)
	}
	return m.freshStd(kind)
}

// freshStd is an expression that makes a new value of a type of std.
func (m *texter) freshStd(kind string) string {
	of := inside(kind)
	switch kind[:strings.Index(kind, "<")] {
	case "Box":
		return "boxed(" + m.value(of) + ")"
	case "Vec":
		if of == "int" && m.Intn(3) > 0 {
			return "fill(" + fmt.Sprint(m.Intn(4)) + ")"
		}
		return "vec::<" + of + ">()"
	case "Rc":
		return m.either(m.say("rc(%s)", of), m.say("rc_clone(%s)", "lend "+kind))
	case "Arc":
		return m.either(m.say("arc(%s)", of), m.say("arc_clone(%s)", "lend "+kind))
	case "Cell":
		return "cell(" + m.value(of) + ")"
	case "RefCell":
		return "refcell(" + m.value(of) + ")"
	case "Mutex":
		return "mutex(" + m.value(of) + ")"
	case "Ref":
		return "borrow(" + m.lent("&", "RefCell<"+of+">") + ")"
	case "RefMut":
		return "borrow_mut(" + m.lent("&", "RefCell<"+of+">") + ")"
	case "Lock":
		if place := m.place("Arc<Mutex<int>>", false); of == "int" && place != "" && m.Intn(3) > 0 {
			return "lock(arc_get(&" + place + "))"
		}
		return "lock(" + m.lent("&", "Mutex<"+of+">") + ")"
	case "Sender":
		if place := m.place(kind, false); place != "" {
			return "sender_clone(&" + place + ")"
		}
		return "chan::<" + of + ">().0"
	case "Receiver":
		return "chan::<" + of + ">().1"
	case "Handle":
		return m.thread(of)
	case "Option":
		return m.option(of)
	case "Slice":
		return m.either(m.say("view(%s, 0, 1)", "lend Vec<int>"), m.say("view(%s, 0, %s)", "lend Vec<int>", "int"), m.say("cut(%s, 1).0", kind), m.say("cut(%s, 0).1", kind))
	case "SliceMut":
		return m.either(m.say("view_mut(%s, 0, 1)", "lend_mut Vec<int>"), m.say("view_mut(%s, 0, %s)", "lend_mut Vec<int>", "int"), m.say("cut_mut(%s, 1).0", kind), m.say("cut_mut(%s, 0).1", kind))
	}
	panic(kind)
}

func (m *texter) option(of string) string {
	return m.either(m.say("Option::Some(%s)", of), m.say("Option::None::<"+of+">"), m.say("pop(%s)", "lend_mut Vec<"+of+">"), m.say("send(%s, %s)", "lend Sender<"+of+">", of), m.say("recv(%s)", "lend Receiver<"+of+">"), m.say("join(%s)", "Handle<"+of+">"))
}

func (m *texter) number() string {
	switch m.Intn(14) {
	case 0:
		return "*" + m.value("&int")
	case 1:
		return "len(" + m.lent("&", "Vec<int>") + ")"
	case 2:
		return "rc_count(" + m.lent("&", "Rc<N>") + ")"
	case 3:
		return "(-" + m.value("int") + ")"
	case 4:
		return "get(" + m.value("&Cell<int>") + ")"
	case 5:
		return "slen(" + m.value("Slice<int>") + ")"
	case 6:
		return "mlen(" + m.lent("&", "SliceMut<int>") + ")"
	case 7:
		return "unbox(" + m.value("Box<int>") + ")"
	case 8, 9:
		return m.calling()
	}
	return "(" + m.value("int") + m.one(" + ", " / ", " * ", " - ", " % ") + m.value("int") + ")"
}

// calling calls a closure that has a name.
func (m *texter) calling() string {
	kind := m.one("fn() -> int", "fn mut() -> int")
	if place := m.place(kind, false); place != "" {
		return place + "()"
	}
	if place := m.place("fn once() -> D", true); place != "" {
		return place + "().v"
	}
	return "1"
}

func (m *texter) reference(kind string) string {
	switch {
	case kind == "&int" && m.left > 0:
		switch m.Intn(12) {
		case 0:
			return "at(" + m.lent("&", "Vec<int>") + ", " + m.one("0", "1", "2") + ")"
		case 1:
			return "sat(" + m.value("Slice<int>") + ", 0)"
		case 2:
			return "ref_get(" + m.lent("&", "Ref<int>") + ")"
		case 3:
			return "arc_get(" + m.lent("&", "Arc<int>") + ")"
		}
	case kind == "&D" && m.left > 0:
		switch m.Intn(6) {
		case 0:
			return "rc_get(" + m.lent("&", "Rc<D>") + ")"
		case 1:
			return "at(" + m.lent("&", "Vec<D>") + ", 0)"
		case 2:
			return "arc_get(" + m.lent("&", "Arc<D>") + ")"
		}
	case kind == "&Cell<int>" && m.Intn(2) == 0:
		return "rc_get(" + m.lent("&", "Rc<Cell<int>>") + ")"
	case kind == "&Mutex<int>" && m.Intn(2) == 0:
		return "arc_get(" + m.lent("&", "Arc<Mutex<int>>") + ")"
	}
	return m.lent("&", kind[1:])
}

func (m *texter) mutReference(kind string) string {
	if m.left <= 0 {
		return m.lent("&mut ", kind[5:])
	}
	of := kind[5:]
	switch m.Intn(12) {
	case 0:
		if of == "int" {
			return "at_mut(" + m.lent("&mut ", "Vec<int>") + ", " + m.one("0", "1", "7") + ")"
		}
	case 1:
		if of == "int" {
			return "mat(" + m.lent("&mut ", "SliceMut<int>") + ", 0)"
		}
	case 2:
		if of != "E" {
			return "mut_get(" + m.lent("&mut ", "RefMut<"+of+">") + ")"
		}
	case 3:
		if of != "E" {
			return "lock_get(" + m.lent("&mut ", "Lock<"+of+">") + ")"
		}
	}
	return m.lent("&mut ", of)
}

// captures are captured names: what is sent to a thread must be Send.
func (m *texter) captures(sent bool) (string, []*seenName) {
	var list []string
	var inner []*seenName
	for _, k := range slices.Backward(slices.Clone(m.names)) {
		if m.Intn(2) > 0 || k.spent && m.Intn(m.wild) > 0 || len(list) > 2 {
			continue
		}
		if sent && !sendable(k.kind) {
			continue
		}
		kind, sign := k.kind, ""
		switch {
		case (kind == "int" || kind == "D" || kind == "E") && m.Intn(4) < 2 && m.bold:
			sign = m.one("&", "&mut ")
		case !isCopy(kind):
			k.spent = true
		}
		list = append(list, sign+k.name)
		inner = append(inner, &seenName{name: k.name, kind: sign + kind})
	}
	return "[" + strings.Join(list, ", ") + "]", inner
}

func sendable(kind string) bool {
	return slices.Contains([]string{"int", "D", "P", "E", "C", "R", "Box<int>", "Box<D>", "Vec<int>", "&int", "&mut int", "&mut D", "&D", "Cell<int>", "RefCell<int>", "Arc<int>", "Arc<D>", "Arc<Mutex<int>>", "Mutex<int>", "Sender<int>", "Receiver<int>", "Sender<D>", "Receiver<D>", "Handle<int>", "Option<D>", "&Mutex<int>"}, kind)
}

// bodyOf is a block with names of its own.
func (m *texter) bodyOf(names []*seenName, kind string) string {
	outer := *m
	m.names, m.loops, m.gives, m.firm = names, 0, kind, false
	text := m.block(kind)
	m.names, m.loops, m.gives, m.firm = outer.names, outer.loops, outer.gives, outer.firm
	return text
}

func (m *texter) thread(kind string) string {
	if m.left <= 0 {
		return "spawn[] -> " + kind + " " + m.bodyOf(nil, kind)
	}
	list, names := m.captures(true)
	return "spawn" + list + " -> " + kind + " " + m.bodyOf(names, kind)
}

func (m *texter) closure(kind string) string {
	word, gives, _ := strings.Cut(kind, "() -> ")
	if m.left <= 0 {
		return word + "[]() -> " + gives + " " + m.bodyOf(nil, gives)
	}
	list, names := m.captures(false)
	if word != "fn once" {
		// Such a closure may be called again.
		for _, k := range names {
			k.spent = k.spent || !isCopy(k.kind) && m.Intn(4) > 0
		}
	}
	return word + list + "() -> " + gives + " " + m.bodyOf(names, gives)
}

func (m *texter) block(kind string) string {
	return m.within(func() string {
		text := "{ "
		for n := m.Intn(6); n > 0 && m.room > 0; n-- {
			text += m.statement()
		}
		if kind != "" {
			text += m.value(kind)
		}
		return text + " }"
	})
}

// arm is an arm that gives a value of a type, or nothing; ? is a name in its pattern.
func (m *texter) arm(pattern, inner, kind string) string {
	return m.within(func() string {
		if inner != "" {
			pattern = strings.Replace(pattern, "?", m.name(inner), 1)
		}
		if kind == "" {
			return pattern + " => " + m.block("") + ", "
		}
		return pattern + " => " + m.value(kind) + ", "
	})
}

// cells is a match of an enum of cells, in which another variant may come in the place of a cell before that is asked by a reference.
func (m *texter) cells(place string) string {
	text := "match " + place + " { "
	for _, c := range []struct {
		variant, kind string
		asks          []string
	}{
		{"F::A", "&Cell<int>", []string{"get(?)", "set(?, 3)"}}, {"F::C", "&RefCell<int>", []string{"borrow(?)", "borrow_mut(?)"}}, {"F::M", "&Mutex<int>", []string{"lock(?)"}},
	} {
		text += m.within(func() string {
			name := m.name(c.kind)
			text := c.variant + "(ref " + name + ") => { " + m.one("", place+" = "+m.fresh("F")+"; ")
			if m.Intn(2) == 0 {
				text += m.statement()
			}
			return text + "eat(" + strings.Replace(m.one(c.asks...), "?", name, 1) + "); }, "
		})
	}
	return text + m.arm("_", "", "") + "} "
}

func (m *texter) match() string {
	switch m.Intn(4) {
	case 0:
		return "match " + m.value("Option<D>") + " { " + m.arm("Option::Some(?)", "D", "") + m.arm("Option::None", "", "") + "} "
	case 1:
		if place := m.place("E", false); place != "" {
			return "match " + place + " { " + m.arm("E::A(ref ?)", "&int", "") + m.arm("E::C(ref mut ?, _)", "&mut D", "") + m.arm("_", "", "") + "} "
		}
	case 2:
		return "match " + m.value("E") + " { " + m.arm("E::A(?)", "int", "") + m.arm("E::B(?)", "Box<int>", "") + m.arm("E::C(?, 3)", "D", "") + m.arm("E::C(ref ?, _)", "&D", "") + "} "
	}
	return "match " + m.value("int") + " { " + m.arm("1", "", "") + m.arm("?", "int", "") + "} "
}

func (m *texter) statement() string {
	m.room--
	left := m.left
	m.left = 2 + m.Intn(5)
	text := m.anyStatement()
	m.left = left
	return text
}

func (m *texter) anyStatement() string {
	kind := m.kind()
	switch m.Intn(22) {
	case 0, 1, 2, 3, 4, 5, 6:
		text := ""
		if of := base(kind); of != "" && m.place(of, false) == "" {
			value := m.value(of)
			text = "let mut " + m.name(of) + ": " + of + " = " + value + "; "
		}
		m.firm = base(kind) != ""
		value := m.value(kind)
		m.firm = false
		return text + "let mut " + m.name(kind) + ": " + kind + " = " + value + "; "
	case 7, 8, 9, 10:
		value := m.value(kind)
		if place := m.place(kind, false); place != "" {
			return place + " = " + value + "; "
		}
		return "eat(" + value + "); "
	case 11, 12, 13:
		return m.filling()
	case 14:
		return "if " + m.value("bool") + " " + m.block("") + m.either(m.say(""), func() string { return " else " + m.block("") }) + " "
	case 15:
		return m.loop()
	case 16:
		return m.match()
	case 17:
		ways := []string{"panic"}
		if m.gives == "int" {
			ways = append(ways, "return "+fmt.Sprint(m.Intn(5)))
		}
		if m.loops > 0 {
			ways = append(ways, "break", "next", "break")
		}
		return "if " + m.value("bool") + " { " + m.within(m.statement) + m.one(ways...) + "; } "
	case 18:
		return m.block("") + " "
	case 19:
		return "out(" + m.value("int") + "); "
	}
	return "eat(" + m.value(kind) + "); "
}

// filling changes something that keeps values.
func (m *texter) filling() string {
	if place := m.place("F", false); place != "" {
		return m.cells(place)
	}
	switch m.Intn(9) {
	case 0:
		return "push(" + m.lent("&mut ", "Vec<int>") + ", " + m.value("int") + "); "
	case 1:
		return "push(" + m.lent("&mut ", "Vec<D>") + ", " + m.value("D") + "); "
	case 2:
		return "set(" + m.value("&Cell<int>") + ", " + m.value("int") + "); "
	case 3:
		return "*mut_get(&mut borrow_mut(" + m.value("&RefCell<int>") + ")) = " + m.value("int") + "; "
	case 4, 5:
		if place := m.place("Arc<Mutex<int>>", false); place != "" {
			return "{ let mut g = lock(arc_get(&" + place + ")); *lock_get(&mut g) = *lock_get(&mut g) + 1; } "
		}
	case 6:
		if a := m.place("Rc<N>", false); a != "" {
			return "*mut_get(&mut borrow_mut(&(*rc_get(&" + a + ")).link)) = Option::Some(rc_clone(" + m.lent("&", "Rc<N>") + ")); "
		}
	case 7:
		if place := m.place("Sender<D>", false); place != "" {
			return "send(&" + place + ", " + m.value("D") + "); "
		}
	}
	return "send(" + m.lent("&", "Sender<int>") + ", " + m.value("int") + "); "
}

func (m *texter) loop() string {
	m.count++
	name := fmt.Sprint("i", m.count)
	m.loops++
	text := "{ let mut " + name + " = 0; while " + name + " < " + m.one("2", "3", "5") + " { " + name + " = " + name + " + 1; " + m.block("") + " } } "
	m.loops--
	return text
}

// text is a text with a made main.
func (m *texter) text() string {
	body := ""
	for m.room > 0 {
		body += m.statement()
	}
	return within(body + m.value("int"))
}

func madeText(seed int64) string {
	m := &texter{Rand: rand.New(rand.NewSource(seed)), room: 5 + int(seed%30), wild: 2 + int(seed%4)*30, bold: seed%2 == 0}
	m.names, m.gives, m.kinds = []*seenName{{name: "n", kind: "int"}}, "int", kindsOfValues
	switch seed % 7 {
	case 0, 1, 2:
		m.kinds = kindsOfThreads
	case 3:
		m.kinds = kindsOfCells
	}
	return m.text()
}

// P29: made texts, whatever they do. Those that pass never go wrong, leave nothing but rings, and do finely what they do coarsely.
func TestMadeTexts(t *testing.T) {
	ends, texts, passed, threads, steps := map[string]int{}, 0, 0, 0, 0
	for seed := range int64(700) {
		text := madeText(seed)
		p, passes, fault := made(text)
		if fault.Kind == api.ErrLong || fault.Kind == api.ErrDeep || fault.Kind == api.ErrMany {
			continue
		}
		if fault.Kind != api.OK {
			t.Errorf("%s: %v: %.60s", text[len(items):], fault, text[fault.At:])
			continue
		}
		texts++
		r := rand.New(rand.NewSource(seed))
		o := held(t, text, p, 5, 1500, nil, false)
		ends[hows[o.How]+whats[o.What]]++
		steps += o.Steps
		if slices.Max(append(o.Order, 0)) > 0 {
			threads++
		}
		for range 2 {
			picks := randomPicks(r)
			held(t, text, p, r.Intn(9), 1500, picks, false)
			o = held(t, text, p, r.Intn(9), r.Intn(1500), picks, true)
			ends["fine "+hows[o.How]+whats[o.What]]++
		}
		if passes {
			passed++
			sound(t, text, p, r)
		}
	}
	// Without these there would be nothing to see.
	if texts < 600 || passed < 100 || threads < 100 || steps < 50000 {
		t.Error(texts, passed, threads, steps)
	}
	for _, end := range []string{"Done", "Failed", "Stuck", "WrongDead", "WrongHole", "WrongKin", "WrongForm", "fine Done", "fine Going", "fine WrongRace"} {
		if ends[end] < 3 {
			t.Error(end, ends)
		}
	}
}

func randomPicks(r *rand.Rand) []int {
	var picks []int
	for range r.Intn(300) {
		picks = append(picks, r.Intn(5))
	}
	return picks
}

// sound looks at what is promised of programs that pass.
func sound(t *testing.T, text string, p api.Program, r *rand.Rand) {
	t.Helper()
	for arg := range 3 {
		fine := Run(p, arg, api.MaxFuel, randomPicks(r), true)
		coarse := Run(p, arg, api.MaxFuel, fine.Order, false)
		for _, o := range []api.Outcome{fine, coarse} {
			if o.How == api.Wrong || o.Loose > 0 {
				t.Errorf("%s: passes, but %+v", text, o)
			}
		}
		if fine.Steps = coarse.Steps; fine.How != api.Going && coarse.How != api.Going && !same(fine, coarse) {
			t.Errorf("%s: fine %+v, coarse %+v", text, fine, coarse)
		}
	}
}
