package holdfast

import (
	"fmt"
	"math/rand"
	"slices"
	"strings"

	"holdfast/api"
)

// growerItems are what made functions may use, a line each, behind the names by which they are used. G, K, X, Z, D and P do something when they are dropped, with what they have lent too.
const growerItems = `D: struct D { v: int } impl Drop for D { fn drop(self: &mut D) { out((*self).v); } }
P: struct P { v: int } impl Drop for P { fn drop(self: &mut P) { if (*self).v > 5 { panic } } }
G: struct G<'a> { r: &'a int } impl<'a> Drop for G<'a> { fn drop(self: &mut G<'a>) { out(*(*self).r); } }
K: struct K<'a> { r: &'a mut int } impl<'a> Drop for K<'a> { fn drop(self: &mut K<'a>) { *(*self).r = *(*self).r + 1; } }
H: copy struct H<'a> { r: &'a int, k: int }
M: struct M<'a> { r: &'a mut int, h: H<'a> }
W: struct W<T> { x: T }
X: struct X<T> { x: T } impl<T> Drop for X<T> { fn drop(self: &mut X<T>) { out(90); } }
E: enum E<'a> { A(int), R(&'a int), M(&'a mut int), B(Box<E<'a>>), D(D) }
C: struct C<'a> { o: RefCell<Option<&'a C<'a>>>, v: int }
Z: struct Z<'a> { o: Cell<Option<&'a Z<'a>>>, v: int } impl<'a> Drop for Z<'a> { fn drop(self: &mut Z<'a>) { match get(&(*self).o) { Option::Some(z) => { out((*z).v); }, Option::None => { } } } }
N: struct N { v: D, link: RefCell<Option<Rc<N>>> }
Tr: trait Tr { fn see(self: &Self) -> &int; fn edit(self: &mut Self) -> &mut int; fn end(self: Self) -> int; } impl Tr for int { fn see(self: &int) -> &int { self } fn edit(self: &mut int) -> &mut int { self } fn end(self: int) -> int { self } } impl Tr for D { fn see(self: &D) -> &int { &(*self).v } fn edit(self: &mut D) -> &mut int { &mut (*self).v } fn end(self: D) -> int { self.v } } impl<T: Tr> Tr for Box<T> { fn see(self: &Box<T>) -> &int { Tr::see(&**self) } fn edit(self: &mut Box<T>) -> &mut int { Tr::edit(&mut **self) } fn end(self: Box<T>) -> int { Tr::end(unbox(self)) } }
keep: fn keep<'a, T: Copy + 'a>(x: T) -> fn 'a() -> T { fn[x]() -> T { x } }
pass: fn pass<T>() -> fn 'static(T) -> T { fn[](x: T) -> T { x } }
eat: fn eat<T>(x: T) { }
id: fn id<T>(x: T) -> T { x }
fst: fn fst<A, B>(a: A, b: B) -> A { a }
one: fn one<'a, T>(c: bool, a: &'a T, b: &'a T) -> &'a T { if c { a } else { b } }
each: fn each<'a, T>(c: bool, a: &'a mut T, b: &'a mut T) -> &'a mut T { if c { a } else { b } }`

// withItems is the text of some functions, with the items that they use, so that what is looked at again and again is short.
func withItems(functions string) string {
	text := functions
	for again, had := true, map[string]int{}; again; {
		again = false
		words := wordsOf(text)
		for line := range strings.Lines(growerItems) {
			name, item, _ := strings.Cut(line, ": ")
			if had[name] == 0 && slices.Contains(words, name) {
				had[name], again = 1, true
				text = item + text
			}
		}
	}
	return "mod main { " + text + " }"
}

// grower makes texts that pass: it puts in one statement after another, anywhere, and keeps those with which the text still passes. So what comes out goes as far as it may.
type grower struct {
	*rand.Rand
	names []named
	count int
	left  int // how many expressions it may still make
	loops int
	gives string
	made  []madeFn
	share int // how much it has to do with threads
	kinds []string
}

type named struct {
	name, kind string
}

// madeFn is a function that the text has already, and how it is called.
type madeFn struct {
	name, gives string
	takes       []string
}

func (m *grower) one(of ...string) string {
	return of[m.Intn(len(of))]
}

// either makes one of some texts, the first one when it may make no more. In each, %s are values, or references, of types that stand behind it with a | between.
func (m *grower) either(of ...string) string {
	row := of[0]
	if m.left > 0 {
		row = of[m.Intn(len(of))]
	}
	parts := strings.Split(row, "|")
	for _, kind := range parts[1:] {
		var value string
		switch {
		case strings.HasPrefix(kind, "at &mut "):
			value = m.lent("&mut ", kind[8:])
		case strings.HasPrefix(kind, "at &"):
			value = m.lent("&", kind[4:])
		default:
			value = m.value(kind)
		}
		parts[0] = strings.Replace(parts[0], "%s", value, 1)
	}
	return parts[0]
}

// palette picks the types that a text has to do with: few, so that they meet.
func (m *grower) palette() {
	bases := strings.Split("int int D P G K H M E C Z N int D", " ")
	around := strings.Split("$ &$ &mut_$ &$ &mut_$ Box<$> Vec<$> Vec<&$> Vec<&mut_$> Option<$> Option<&$> Option<&mut_$> RefCell<$> Ref<$> RefMut<$> &RefCell<$> RefCell<&$> Rc<RefCell<$>> Rc<$> W<&$> X<&$> X<&mut_$> W<$> X<$> (&$,_$) ($,_$) (&mut_$,_&mut_$) &&$ &mut_&$ &mut_&mut_$ &mut_Vec<$> Slice<$> SliceMut<$> Mutex<$> Lock<$> Box<&mut_$> Rc<N> fn()_->_int fn_mut()_->_int fn_once()_->_D Vec<fn()_->_int> Option<fn_once()_->_D> keep pass Cell<int> Cell<&int> Cell<H> &Cell<&int> E &mut_E", " ")
	shared := strings.Split("Arc<Mutex<$>> Arc<Mutex<$>> (Sender<$>,_Receiver<$>) (Sender<$>,_Receiver<$>) Sender<$> Receiver<$> Handle<$> Handle<$> Lock<$> Arc<$> Box<$> Arc<Mutex<Vec<$>>> Option<$>", " ")
	base := []string{m.one(bases...), m.one(bases...)}
	if m.share > 0 {
		base = []string{m.one("int", "D", "P"), m.one("int", "D")}
	}
	m.kinds = append(m.kinds, "int", base[0], base[1])
	for range 7 {
		list := around
		if m.Intn(3) < m.share {
			list = shared
		}
		kind := strings.ReplaceAll(m.one(list...), "_", " ")
		m.kinds = append(m.kinds, strings.ReplaceAll(kind, "$", m.one(base...)))
	}
}

func (m *grower) kind() string {
	return m.one(m.kinds...)
}

// within is what stands between the first and the last sign of a type's brackets.
func within(kind string) string {
	return kind[strings.IndexAny(kind, "<(")+1 : len(kind)-1]
}

// two are the types of a pair.
func two(kind string) (string, string) {
	depth := 0
	inner := within(kind)
	for k, c := range inner {
		switch c {
		case '<', '(':
			depth++
		case '>', ')':
			// The sign of an arrow is no bracket.
			if inner[k-1] != '-' {
				depth--
			}
		case ',':
			if depth == 0 {
				return inner[:k], inner[k+2:]
			}
		}
	}
	return inner, ""
}

// deeper are the parts of a place of a type: how they are written, and their types.
func deeper(text, kind string) [][2]string {
	switch {
	case strings.HasPrefix(kind, "&mut "):
		return [][2]string{{"(*" + text + ")", kind[5:]}}
	case kind[0] == '&':
		return [][2]string{{"(*" + text + ")", kind[1:]}}
	case strings.HasPrefix(kind, "Box<"):
		return [][2]string{{"(*" + text + ")", within(kind)}}
	case kind[0] == '(':
		a, b := two(kind)
		return [][2]string{{text + ".0", a}, {text + ".1", b}}
	case strings.HasPrefix(kind, "W<"), strings.HasPrefix(kind, "X<"):
		return [][2]string{{text + ".x", within(kind)}}
	}
	switch kind {
	case "D", "P", "C", "Z":
		return [][2]string{{text + ".v", "int"}}
	case "G":
		return [][2]string{{text + ".r", "&int"}}
	case "keep":
		return [][2]string{{text + "()", "&int"}}
	case "K":
		return [][2]string{{text + ".r", "&mut int"}}
	case "H":
		return [][2]string{{text + ".r", "&int"}, {text + ".k", "int"}}
	case "M":
		return [][2]string{{text + ".r", "&mut int"}, {text + ".h", "H"}}
	}
	return nil
}

func places(text, kind, want string, depth int) []string {
	var out []string
	if kind == want {
		out = append(out, text)
	}
	if depth > 0 {
		for _, part := range deeper(text, kind) {
			out = append(out, places(part[0], part[1], want, depth-1)...)
		}
	}
	return out
}

// reads are the numbers in what a value of a type leads to, by functions of std too.
func reads(text, kind string, depth int) []string {
	if kind == "int" {
		return []string{text}
	}
	if depth == 0 {
		return nil
	}
	parts := deeper(text, kind)
	if of, ok := map[string]string{"Vec": "(*at(&%, 0))", "Cell": "get(&%)", "RefCell": "(*ref_get(&borrow(&%)))", "Rc": "(*rc_get(&%))", "Arc": "(*arc_get(&%))", "Ref": "(*ref_get(&%))", "RefMut": "(*mut_get(&mut %))", "Lock": "(*lock_get(&mut %))", "Slice": "(*sat(%, 0))", "SliceMut": "(*mat(&mut %, 0))", "Option": "(match % { Option::Some(ref q) => q, Option::None => panic })"}[strings.Split(kind, "<")[0]]; ok {
		inner := within(kind)
		if kind[0] == 'O' {
			inner = "&" + inner
		}
		parts = append(parts, [2]string{strings.Replace(of, "%", text, 1), inner})
	}
	var out []string
	for _, part := range parts {
		out = append(out, reads(part[0], part[1], depth-1)...)
	}
	return out
}

// place is a place of a type, or "".
func (m *grower) place(kind string) string {
	var all []string
	for _, k := range m.names {
		all = append(all, places(k.name, k.kind, kind, 3)...)
	}
	if len(all) == 0 {
		return ""
	}
	return all[m.Intn(len(all))]
}

// lent is a reference to a place of a type, or to a new value.
func (m *grower) lent(sign, kind string) string {
	if place := m.place(kind); place != "" && m.Intn(9) > 0 {
		return sign + place
	}
	return sign + m.fresh(kind)
}

func (m *grower) value(kind string) string {
	m.left--
	if place := m.place(kind); place != "" && (m.Intn(5) > 0 || m.left < 0) {
		return place
	}
	if m.left < 0 {
		return m.fresh(kind)
	}
	for _, f := range m.made {
		if f.gives == kind && m.Intn(2) == 0 {
			return m.call(f)
		}
	}
	switch m.Intn(14) {
	case 0:
		return "(if " + m.truth() + " { " + m.value(kind) + " } else { " + m.value(kind) + " })"
	case 1:
		return "id(" + m.value(kind) + ")"
	case 2:
		return "fst(" + m.value(kind) + ", " + m.value(m.kind()) + ")"
	case 3:
		return "replace(" + m.value("&mut "+kind) + ", " + m.value(kind) + ")"
	case 4:
		return "(match " + m.value("Option<"+kind+">") + " { Option::Some(q) => q, Option::None => " + m.value(kind) + " })"
	case 5:
		return "({ " + m.statement() + m.value(kind) + " })"
	}
	return m.fresh(kind)
}

// given is the number that the function around is given, or another one where that is not in sight.
func (m *grower) given() string {
	if slices.Contains(m.names, named{"n", "int"}) {
		return "n"
	}
	return "1"
}

func (m *grower) truth() string {
	if m.Intn(2) == 0 {
		return m.given() + " == " + fmt.Sprint(m.Intn(7))
	}
	return m.value("int") + m.one(" < ", " == ", " >= ") + fmt.Sprint(m.Intn(7))
}

func (m *grower) call(f madeFn) string {
	var args []string
	for _, kind := range f.takes {
		args = append(args, m.value(kind))
	}
	return f.name + "(" + strings.Join(args, ", ") + ")"
}

// fresh is an expression that makes a new value of a type.
func (m *grower) fresh(kind string) string {
	few := m.left <= 0
	switch kind {
	case "int":
		if few || m.Intn(2) == 0 {
			return m.one(m.given(), "1", "2", "7")
		}
		return m.number()
	case "D", "P":
		return "make " + kind + " { v: " + m.value("int") + " }"
	case "G":
		return "make G { r: " + m.value("&int") + " }"
	case "K":
		return "make K { r: " + m.value("&mut int") + " }"
	case "H":
		return "make H { r: " + m.value("&int") + ", k: 3 }"
	case "M":
		return "make M { r: " + m.value("&mut int") + ", h: " + m.value("H") + " }"
	case "keep":
		return "keep(" + m.value("&int") + ")"
	case "pass":
		return "pass::<&int>()"
	case "E":
		return m.either("E::A(%s)|int", "E::R(%s)|&int", "E::M(%s)|&mut int", "E::B(%s)|Box<E>", "E::D(%s)|D")
	case "C":
		return "make C { o: refcell(Option::None), v: 5 }"
	case "Z":
		return "make Z { o: cell(Option::None), v: 6 }"
	case "N":
		return "make N { v: " + m.value("D") + ", link: refcell(Option::None) }"
	}
	switch {
	case strings.HasPrefix(kind, "&mut "):
		return m.mutReference(kind[5:])
	case kind[0] == '&':
		return m.reference(kind[1:])
	case kind[0] == '(':
		a, b := two(kind)
		if strings.HasPrefix(a, "Sender<") && strings.HasPrefix(b, "Receiver<") {
			return "chan::<" + within(a) + ">()"
		}
		return "(" + m.value(a) + ", " + m.value(b) + ")"
	case strings.HasPrefix(kind, "fn"):
		return m.closure(kind)
	}
	return m.freshStd(kind, within(kind))
}

func (m *grower) freshStd(kind, of string) string {
	switch kind[:strings.Index(kind, "<")] {
	case "Box":
		return "boxed(" + m.value(of) + ")"
	case "Vec":
		return "vec::<" + of + ">()"
	case "Option":
		return m.either("Option::None::<"+of+">", "Option::Some(%s)|"+of, "Option::Some(%s)|"+of, "pop(%s)|at &mut Vec<"+of+">", "join(%s)|Handle<"+of+">", "recv(%s)|at &Receiver<"+of+">")
	case "Rc":
		return m.either("rc(%s)|"+of, "rc_clone(%s)|at &"+kind)
	case "Arc":
		return m.either("arc(%s)|"+of, "arc_clone(%s)|at &"+kind)
	case "Cell":
		return "cell(" + m.value(of) + ")"
	case "RefCell":
		return "refcell(" + m.value(of) + ")"
	case "Mutex":
		return "mutex(" + m.value(of) + ")"
	case "W", "X":
		return "make " + kind[:1] + " { x: " + m.value(of) + " }"
	case "Ref":
		return "borrow(" + m.value("&RefCell<"+of+">") + ")"
	case "RefMut":
		return "borrow_mut(" + m.value("&RefCell<"+of+">") + ")"
	case "Lock":
		return "lock(" + m.value("&Mutex<"+of+">") + ")"
	case "Slice":
		if text := m.through("cut(%s, 1).0|"+kind, "view(%s, 0, 1)|at &Vec<"+of+">"); text != "" {
			return text
		}
		return "view(" + m.lent("&", "Vec<"+of+">") + ", 0, 0)"
	case "SliceMut":
		if text := m.through("cut_mut(%s, 1).0|"+kind, "view_mut(%s, 0, 1)|at &mut Vec<"+of+">"); text != "" {
			return text
		}
		return "view_mut(" + m.lent("&mut ", "Vec<"+of+">") + ", 0, 0)"
	case "Sender":
		return m.either("chan::<"+of+">().0", "sender_clone(%s)|at &"+kind)
	case "Receiver":
		return "chan::<" + of + ">().1"
	case "Handle":
		list, names := m.captures()
		return "spawn" + list + " -> " + of + " " + m.body(names, of)
	}
	panic(kind)
}

func (m *grower) number() string {
	switch m.Intn(10) {
	case 0:
		return "*" + m.value("&int")
	case 1:
		return "len(" + m.lent("&", "Vec<"+m.kind()+">") + ")"
	case 2:
		return "rc_count(" + m.lent("&", "Rc<N>") + ")"
	case 3:
		return "get(" + m.value("&Cell<int>") + ")"
	case 4:
		return "Tr::end(" + m.value(m.one("D", "int", "Box<int>", "Box<D>")) + ")"
	case 5, 6, 7:
		kind := m.one("fn mut() -> int", "fn() -> int", "fn once() -> D")
		if place := m.place(kind); place != "" {
			return place + "()" + map[bool]string{true: ".v"}[kind == "fn once() -> D"]
		}
	}
	return "(" + m.value("int") + m.one(" + ", " - ", " * ", " / ") + m.value("int") + ")"
}

// through is one of some rows as either has them, whose first type there is a place of, or "".
func (m *grower) through(rows ...string) string {
	var all []string
	for _, row := range rows {
		of := strings.Split(row, "|")[1]
		if m.place(of[strings.LastIndexAny(of[:min(len(of), 8)], "& ")+1:]) != "" {
			all = append(all, row)
		}
	}
	if len(all) == 0 || m.left <= 0 {
		return ""
	}
	return m.either(all[m.Intn(len(all))])
}

func (m *grower) reference(of string) string {
	if m.Intn(2) == 0 {
		rows := []string{"at(%s, 0)|at &Vec<$>", "rc_get(%s)|at &Rc<$>", "ref_get(%s)|at &Ref<$>", "sat(%s, 0)|Slice<$>", "arc_get(%s)|at &Arc<$>", "one(" + m.given() + " == 2, %s, %s)|at &$|at &$", "&*%s|at &mut $"}
		if of == "int" {
			rows = append(rows, "Tr::see(%s)|at &D", "Tr::see(%s)|at &Box<D>", "get(%s)|at &Cell<&int>", "%s(%s)|pass|&int", "%s()|keep")
		}
		if text := m.through(strings.Split(strings.ReplaceAll(strings.Join(rows, "\n"), "$", of), "\n")...); text != "" {
			return text
		}
	}
	return m.lent("&", of)
}

func (m *grower) mutReference(of string) string {
	if m.Intn(2) == 0 {
		rows := []string{"at_mut(%s, 0)|at &mut Vec<$>", "mut_get(%s)|at &mut RefMut<$>", "lock_get(%s)|at &mut Lock<$>", "mat(%s, 0)|at &mut SliceMut<$>", "each(" + m.given() + " == 2, %s, %s)|at &mut $|at &mut $", "&mut *%s|at &mut $"}
		if of == "int" {
			rows = append(rows, "Tr::edit(%s)|at &mut D", "Tr::edit(%s)|at &mut Box<D>")
		}
		if text := m.through(strings.Split(strings.ReplaceAll(strings.Join(rows, "\n"), "$", of), "\n")...); text != "" {
			return text
		}
	}
	return m.lent("&mut ", of)
}

func (m *grower) captures() (string, []named) {
	var list []string
	var inner []named
	for _, k := range slices.Backward(m.names) {
		if m.Intn(3) > 0 || len(list) > 2 || slices.ContainsFunc(inner, func(n named) bool { return n.name == k.name }) {
			continue
		}
		sign := m.one("", "", "&", "&mut ")
		list = append(list, sign+k.name)
		inner = append(inner, named{k.name, sign + k.kind})
	}
	return "[" + strings.Join(list, ", ") + "]", inner
}

// body is a block with names of its own.
func (m *grower) body(names []named, gives string) string {
	outer := *m
	m.names, m.loops, m.gives = names, 0, gives
	text := m.block(gives)
	m.names, m.loops, m.gives = outer.names, outer.loops, outer.gives
	return text
}

func (m *grower) closure(kind string) string {
	word, gives, _ := strings.Cut(kind, "() -> ")
	list, names := m.captures()
	return word + list + "() -> " + gives + " " + m.body(names, gives)
}

func (m *grower) block(gives string) string {
	names := m.names
	text := "{ "
	for range 1 + m.Intn(3) {
		m.left += m.Intn(2)
		if m.left > 0 {
			text += m.statement()
		}
	}
	if gives != "" {
		text += m.value(gives)
	}
	m.names = names[:len(names):len(names)]
	return text + " }"
}

func (m *grower) let(kind, value string) string {
	m.count++
	name := fmt.Sprint("v", m.count)
	m.names = append(m.names[:len(m.names):len(m.names)], named{name, kind})
	switch {
	case kind == "keep" || kind == "pass":
		// The types of these cannot be written.
		return "let mut " + name + " = " + m.fresh(kind) + "; "
	case value == "":
		return "let mut " + name + ": " + kind + "; "
	}
	return "let mut " + name + ": " + kind + " = " + value + "; "
}

func (m *grower) statement() string {
	kind := m.kind()
	switch m.Intn(26) {
	case 0, 1, 2, 3, 4, 5:
		return m.let(kind, m.value(kind))
	case 6, 7:
		if len(m.names) > 0 {
			of := m.names[m.Intn(len(m.names))]
			parts := append(deeper(of.name, of.kind), [2]string{of.name, of.kind})
			part, sign := parts[m.Intn(len(parts))], m.one("&", "&mut ")
			return m.let(sign+part[1], sign+part[0])
		}
	case 8, 9, 10:
		if len(m.names) > 0 {
			of := m.names[m.Intn(len(m.names))]
			parts := append(deeper(of.name, of.kind), [2]string{of.name, of.kind})
			part := parts[m.Intn(len(parts))]
			return part[0] + " = " + m.value(part[1]) + "; "
		}
	case 11:
		return "if " + m.truth() + " " + m.block("") + m.otherwise() + " "
	case 12:
		return m.loop()
	case 13:
		return m.match()
	case 14:
		if m.Intn(3) == 0 {
			return "if " + m.given() + " == " + fmt.Sprint(m.Intn(7)) + " { " + m.leaving() + "; } "
		}
	case 15, 16:
		return m.filling()
	case 17:
		if m.Intn(2) == 0 {
			return m.let(kind, "")
		}
	case 18, 19, 20:
		return m.escape()
	}
	return m.using()
}

// escape lets something go out of the block that it is in, in some way, and uses what may have it.
func (m *grower) escape() string {
	outer := m.names
	few := slices.Clone(m.names[max(0, len(m.names)-m.Intn(3)):])
	kind := m.one("&int", "&mut int", "G", "K", "H", "M", "E", "Option<&int>", "Option<&mut int>", "Vec<&int>", "Vec<G>", "Cell<&int>", "RefCell<&int>", "Box<&int>", "(&int, int)", "W<&int>", "X<&int>", "Rc<RefCell<&int>>", "(Sender<&int>, Receiver<&int>)", "(Sender<G>, Receiver<G>)", "fn() -> int", "fn mut() -> int", "Vec<fn() -> int>", "Option<fn once() -> D>", "&&int", "&mut &int", "Ref<int>", "Ref<&int>", "RefCell<Option<G>>", "keep", "Slice<int>", "SliceMut<int>", "SliceMut<&int>", m.kind())
	m.names = few
	value := ""
	if m.Intn(3) > 0 {
		value = m.value(kind)
	}
	text := m.let(kind, value)
	kept := m.names[len(m.names)-1]
	m.left = 4
	text += "{ "
	for range 1 + m.Intn(2) {
		inner := m.one("int", "int", "int", "D", "Box<int>", "Vec<int>", "RefCell<int>", "G", "K", "pass", kind)
		text += m.let(inner, m.fresh(inner))
	}
	for range 1 + m.Intn(3) {
		m.left = 4
		switch m.Intn(4) {
		case 0:
			text += kept.name + " = " + m.value(kept.kind) + "; "
		case 1:
			text += m.filling()
		default:
			text += m.statement()
		}
	}
	m.names = []named{kept}
	text += "} " + m.using()
	m.names = append(outer[:len(outer):len(outer)], kept)
	return text
}

// using does something with what has a name.
func (m *grower) using() string {
	if len(m.names) == 0 {
		return "out(1); "
	}
	of := m.names[m.Intn(len(m.names))]
	if of.kind == "int" {
		of = m.names[m.Intn(len(m.names))]
	}
	numbers := reads(of.name, of.kind, 4)
	switch {
	case strings.HasPrefix(of.kind, "fn"):
		return "eat(" + of.name + "()); "
	case len(numbers) > 0:
		return "out(" + numbers[m.Intn(len(numbers))] + "); "
	case m.Intn(2) == 0:
		return "eat(&" + of.name + "); "
	}
	return "eat(" + of.name + "); "
}

func (m *grower) otherwise() string {
	if m.Intn(2) == 0 {
		return ""
	}
	return " else " + m.block("")
}

// leaving is a way out of what is around.
func (m *grower) leaving() string {
	ways := []string{"panic"}
	if m.gives != "" {
		ways = append(ways, "return "+m.value(m.gives))
	}
	if m.loops > 0 {
		ways = append(ways, "break", "next", "break")
	}
	return m.one(ways...)
}

func (m *grower) loop() string {
	m.loops++
	m.count++
	name := fmt.Sprint("i", m.count)
	text := "{ let mut " + name + " = 0; while " + name + " < " + m.one("2", "3") + " { " + name + " = " + name + " + 1; " + m.block("") + " } } "
	m.loops--
	return text
}

// filling changes something that keeps values.
func (m *grower) filling() string {
	rows := []string{"set(%s, %s)|at &Cell<int>|int", "set(%s, %s)|at &Cell<&int>|&int", "set(%s, %s)|at &Cell<H>|H", "*mut_get(&mut borrow_mut(&%s.o)) = Option::Some(%s)|C|at &C", "set(&%s.o, Option::Some(%s))|Z|at &Z", "*mut_get(&mut borrow_mut(&(*rc_get(%s)).link)) = Option::Some(rc_clone(%s))|at &Rc<N>|at &Rc<N>"}
	for _, kind := range m.kinds {
		for _, row := range []string{"push(%s, %s)|at &mut Vec<$>|$", "*mut_get(&mut borrow_mut(%s)) = %s|at &RefCell<$>|$", "*lock_get(&mut lock(%s)) = %s|at &Mutex<$>|$", "*lock_get(&mut lock(arc_get(%s))) = %s|at &Arc<Mutex<$>>|$", "send(%s, %s)|at &Sender<$>|$", "recv(%s)|at &Receiver<$>", "join(%s)|Handle<$>", "pop(%s)|at &mut Vec<$>"} {
			rows = append(rows, strings.ReplaceAll(row, "$", kind))
		}
	}
	if text := m.through(rows...); text != "" {
		return text + "; "
	}
	return m.using()
}

// arm is an arm of a match, with a name in its pattern, or none.
func (m *grower) arm(pattern, kind string) string {
	names := m.names
	if kind != "" {
		m.count++
		name := fmt.Sprint("v", m.count)
		m.names = append(m.names[:len(m.names):len(m.names)], named{name, kind})
		pattern = strings.Replace(pattern, "?", name, 1)
	}
	text := pattern + " => " + m.block("") + ", "
	m.names = names
	return text
}

func (m *grower) match() string {
	if place := m.place("E"); place != "" && m.Intn(2) == 0 {
		if m.Intn(2) == 0 {
			return "match " + place + " { " + m.arm("E::A(ref mut ?)", "&mut int") + m.arm("E::R(?)", "&int") + m.arm("E::M(?)", "&mut int") + m.arm("E::B(?)", "Box<E>") + m.arm("_", "") + "} "
		}
		return "match " + place + " { " + m.arm("E::M(ref mut ?)", "&mut &mut int") + m.arm("E::B(ref ?)", "&Box<E>") + m.arm("E::D(ref ?)", "&D") + m.arm("_", "") + "} "
	}
	kind := m.kind()
	of := m.value("Option<" + kind + ">")
	sign := m.one("", "&", "&mut ")
	word := map[string]string{"&": "ref ", "&mut ": "ref mut "}[sign]
	return "match " + of + " { " + m.arm("Option::Some("+word+"?)", sign+kind) + m.arm("Option::None", "") + "} "
}

// headsOfMade are how made functions begin: what stands between their names and their blocks, what they take, with names, and what they give.
var headsOfMade = [][3]string{
	{"<'a>(mut a: &'a int, n: int) -> &'a int", "a &int;n int", "&int"},
	{"<'a, 'b>(mut a: &'a mut int, mut b: &'b int, n: int) -> &'a mut int", "a &mut int;b &int;n int", "&mut int"},
	{"<'a, 'b: 'a>(mut a: &'a int, mut b: &'b mut int, n: int) -> G<'a>", "a &int;b &mut int;n int", "G"},
	{"<'a, 'b>(mut a: K<'a>, mut b: &'b mut K<'a>, n: int) -> K<'a>", "a K;b &mut K;n int", "K"},
	{"<'a, 'b>(mut a: &'a mut Vec<&'b int>, mut b: &'b int, n: int) -> &'a int", "a &mut Vec<&int>;b &int;n int", "&int"},
	{"<'a>(mut a: &'a RefCell<int>, mut d: D, n: int) -> Ref<'a, int>", "a &RefCell<int>;d D;n int", "Ref<int>"},
	{"<'a>(mut a: M<'a>, mut o: Option<&'a mut int>, n: int) -> Option<&'a mut int>", "a M;o Option<&mut int>;n int", "Option<&mut int>"},
	{"<'a>(mut e: E<'a>, mut d: D, n: int) -> E<'a>", "e E;d D;n int", "E"},
	{"<'a, 'b>(mut e: &'a mut E<'b>, mut b: Box<int>, n: int) -> &'a int", "e &mut E;b Box<int>;n int", "&int"},
	{"<'a>(mut k: &'a int, mut x: X<&'a int>, n: int) -> fn 'a() -> int", "k &int;x X<&int>;n int", "fn() -> int"},
	{"<'a>(mut c: &Cell<&'a int>, mut r: &'a int, n: int) -> H<'a>", "c &Cell<&int>;r &int;n int", "H"},
	{"<'a, 'b>(mut c: &'b C<'a>, mut r: &'a C<'a>, n: int) -> &'b C<'a>", "c &C;r &C;n int", "&C"},
	{"(mut d: D, mut a: Arc<Mutex<int>>, n: int) -> Handle<D>", "d D;a Arc<Mutex<int>>;n int", "Handle<D>"},
}

// madeBody is a made block, statement by statement, with the names that each one brings.
type madeBody struct {
	texts []string
	names [][]named
	ends  string
}

// grow puts statements into a block, as long as a text with it passes; so many times it tries.
func (m *grower) grow(given []named, gives string, tries int, whole func(block string) string) string {
	// Where nothing fresh will do, a panic does.
	b := madeBody{ends: "panic"}
	m.gives = gives
	if gives == "int" {
		b.ends = "n"
	}
	for range tries {
		at := len(b.texts)
		if m.Intn(3) == 0 {
			at = m.Intn(at + 1)
		}
		m.names = slices.Clone(given)
		for _, names := range b.names[:at] {
			m.names = append(m.names, names...)
		}
		seen := len(m.names)
		m.left = 1 + m.Intn(7)
		next := b
		if m.Intn(6) == 0 && at == len(b.texts) {
			next.ends = m.value(gives)
		} else {
			next.texts = slices.Insert(slices.Clone(b.texts), at, m.statement())
			next.names = slices.Insert(slices.Clone(b.names), at, slices.Clone(m.names[seen:]))
		}
		if _, fault := Load(whole(next.text())); fault.Kind == api.OK {
			b = next
		}
	}
	return b.text()
}

func (b madeBody) text() string {
	return "{ " + strings.Join(b.texts, "") + b.ends + " }"
}

// grown is a made text that passes.
func grown(seed int64, tries int) string {
	m := &grower{Rand: rand.New(rand.NewSource(seed)), share: int(seed % 3)}
	m.palette()
	functions := ""
	text := func(more string) string {
		return withItems(functions + more)
	}
	for k := range m.Intn(3) {
		head := headsOfMade[m.Intn(len(headsOfMade))]
		var given []named
		f := madeFn{name: fmt.Sprint("f", k), gives: head[2]}
		for part := range strings.SplitSeq(head[1], ";") {
			name, kind, _ := strings.Cut(part, " ")
			given = append(given, named{name, kind})
			f.takes = append(f.takes, kind)
		}
		of := func(block string) string { return "fn " + f.name + head[0] + " " + block + "\n" }
		block := m.grow(given, head[2], tries/2, func(block string) string {
			return text(of(block) + "fn main(n: int) -> int { n }")
		})
		functions += of(block)
		m.made = append(m.made, f)
	}
	block := m.grow([]named{{"n", "int"}}, "int", tries, func(block string) string {
		return text("fn main(n: int) -> int " + block)
	})
	return text("fn main(n: int) -> int " + block)
}

// escaping is a made text in which something may go out of its block; whether it passes is not looked at.
func escaping(seed int64) string {
	m := &grower{Rand: rand.New(rand.NewSource(seed)), share: []int{0, 0, 0, 1, 2}[seed%5], names: []named{{"n", "int"}}, gives: "int"}
	m.palette()
	body := ""
	for range m.Intn(3) {
		m.left = 3
		kind := m.kind()
		body += m.let(kind, m.value(kind))
	}
	for range 1 + m.Intn(2) {
		m.left = 4
		body += m.escape()
	}
	return withItems("fn main(n: int) -> int { " + body + "n }")
}
