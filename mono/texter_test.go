package mono

import (
	"fmt"
	"math/rand"
	"strings"
	"testing"

	"holdfast/api"
	"holdfast/owns"
)

// texter makes up functions with type parameters that need one another, with all kinds of types in their place.
type texter struct {
	*rand.Rand
	gens   []int    // how many type parameters functions f0, f1, .. have
	at     int      // which of them is being made
	params []string // the type parameters in sight
	plain  bool     // nothing is asked of these
	names  []string // those in sight
	count  int      // of names that have been given
	left   int      // how many statements it may still make
}

// kind is a type, which is Send and has trait A if that is asked for.
func (m *texter) kind(depth int, asked bool) string {
	simple := []string{"int", "bool"}
	if !m.plain || !asked {
		simple = append(simple, m.params...)
		simple = append(simple, m.params...)
	}
	if depth == 0 || m.Intn(2) == 0 {
		return simple[m.Intn(len(simple))]
	}
	sub := func() string { return m.kind(depth-1, asked) }
	switch m.Intn(5) {
	case 0:
		return "Box<" + sub() + ">"
	case 1:
		return "(" + sub() + ", " + sub() + ")"
	case 2:
		return "D<" + sub() + ">"
	case 3:
		return "P<" + sub() + ", " + sub() + ">"
	}
	return sub()
}

// wide is a type that need not have trait A, nor be Send.
func (m *texter) wide() string {
	return fmt.Sprintf([]string{"%s", "Vec<%s>", "&%s", "Option<%s>", "fn(int) -> %s", "Rc<%s>", "&mut Slice<%s>", "L<%s>"}[m.Intn(8)], m.kind(1, false))
}

// call calls one of the functions, mostly a later one: then its types may be greater, since that comes to an end.
func (m *texter) call() string {
	to, depth := m.Intn(len(m.gens)), 0
	if later := m.at + 1 + m.Intn(3); later < len(m.gens) && m.Intn(4) > 0 {
		to, depth = later, 1
	}
	if m.Intn(9) == 0 {
		depth++
	}
	var types []string
	for range m.gens[to] {
		types = append(types, m.kind(depth, true))
	}
	if len(types) == 0 {
		return fmt.Sprintf("f%d(k(), 1); ", to)
	}
	return fmt.Sprintf("f%d::<%s>(k(), 1); ", to, strings.Join(types, ", "))
}

func (m *texter) block(around []string, gives string) string {
	names := m.names
	m.names = append([]string(nil), around...)
	text := "{ "
	for range m.Intn(3) {
		text += m.statement()
	}
	m.names = names
	return text + gives + " }"
}

func (m *texter) name() string {
	m.count++
	return fmt.Sprint("v", m.count)
}

// captured is a name that a closure or a thread captures, with the sign for how, or nothing.
func (m *texter) captured(signs ...string) string {
	if len(m.names) == 0 || m.Intn(2) == 0 {
		return ""
	}
	return signs[m.Intn(len(signs))] + m.names[m.Intn(len(m.names))]
}

func (m *texter) statement() string {
	if m.left--; m.left < 0 {
		return ""
	}
	switch m.Intn(12) {
	case 0, 1, 2:
		return m.call()
	case 3:
		return "A::" + []string{"a(&k", "b(k"}[m.Intn(2)] + "::<" + m.kind(2, true) + ">()); "
	case 4:
		return "make D { d: k::<" + m.kind(1, false) + ">() }; "
	case 5:
		kind := m.kind(1, false)
		return []string{"E::N::<" + kind + ">; ", "E::C(k::<" + kind + ">(), boxed(k())); ", "make P { b: k::<" + kind + ">(), a: 1 }; "}[m.Intn(3)]
	case 6:
		return []string{"vec", "chan", "k"}[m.Intn(3)] + "::<" + m.wide() + ">(); "
	case 7:
		kind := m.kind(1, false)
		body := m.block(nil, "("+[]string{"*q", "unbox(q)"}[min(1, m.Intn(10))]+", k())")
		return fmt.Sprintf("let %s = fn%s[%s](q: Box<%s>) -> (%s, bool) %s; ", m.name(), []string{"", " mut", " once"}[m.Intn(3)], m.captured("", "&", "&mut "), kind, kind, body)
	case 8:
		return fmt.Sprintf("spawn[%s] -> %s %s; ", m.captured(""), m.kind(1, true), m.block(nil, "k()"))
	case 9:
		return "if k() " + m.block(m.names, "") + " else " + m.block(m.names, "") + " "
	case 10:
		if len(m.names) > 0 {
			return "let w = " + m.names[m.Intn(len(m.names))] + "; "
		}
	}
	name := m.name()
	text := "let mut " + name + ": " + m.kind(2, true) + []string{";", " = k();"}[min(1, m.Intn(12))] + " "
	m.names = append(m.names, name)
	return text
}

// body is the block of a function, a method or a Drop.
func (m *texter) body(gives string, statements int, plain bool, params ...string) string {
	m.params, m.plain, m.names, m.left = params, plain, nil, statements+4
	text := "{ "
	for range statements {
		text += m.statement()
	}
	return text + gives + " }"
}

// impl is an impl of trait A.
func (m *texter) impl(head, kind string, params ...string) string {
	m.at = len(m.gens) - 3
	return head + " A for " + kind + " { fn a(self: &" + kind + ") -> int " + m.body("1", m.Intn(3), false, params...) + " fn b(self: " + kind + ") -> " + kind + " " + m.body("self", m.Intn(3), false, params...) + " } "
}

func (m *texter) text() string {
	text := "mod main { fn k<T>() -> T { panic } struct D<T> { d: T } enum E<T> { N, C(T, Box<T>) } struct P<X, Y> { a: X, b: Y } struct L<T> { l: Cell<Option<T>> } trait A { fn a(self: &Self) -> int; fn b(self: Self) -> Self; } "
	for range 3 + m.Intn(4) {
		m.gens = append(m.gens, m.Intn(3))
	}
	text += "impl<T> Drop for D<T> { fn drop(self: &mut D<T>) " + m.body("", m.Intn(2), true, "T") + " } impl<T> Drop for E<T> { fn drop(self: &mut E<T>) { } } "
	text += m.impl("impl", "int") + m.impl("impl", "bool") + m.impl("impl<T: A + Send>", "Box<T>", "T") + m.impl("impl<T: A + Send, U: Send + A>", "(U, T)", "T", "U") + m.impl("impl<T: Send + A>", "D<T>", "T") + m.impl("impl<U: A + Send, T: A + Send>", "P<U, T>", "U", "T")
	for n, many := range m.gens {
		m.at = n
		params := []string{"X", "Y"}[:many]
		takes, head := "bool", ""
		if many > 0 {
			takes, head = params[many-1], "<"+strings.Join(params, ": Send + A, ")+": A + Send>"
		}
		text += fmt.Sprintf("fn f%d%s(x: %s, y: int) -> int %s ", n, head, takes, m.body("1", 1+m.Intn(4), false, params...))
	}
	m.at = 0
	return text + "fn main(n: int) -> int " + m.body("n", 4, false) + " }"
}

// P27, P28: made texts.
func TestMadeTexts(t *testing.T) {
	faults, sizes, drops, owned := map[api.Errno]int{}, [4]int{}, 0, map[bool]int{}
	for seed := range int64(500) {
		m := &texter{Rand: rand.New(rand.NewSource(seed))}
		text := m.text()
		p, fault := coded(text)
		if fault.Kind != api.OK {
			if fault.Kind != api.ErrLong {
				t.Errorf("%q: %v: %.20s", text, fault, text[fault.At:])
			}
			continue
		}
		q, fault := held(t, text, p)
		faults[fault.Kind]++
		sizes[min(3, len(q.Fns)/12)]++
		drops += len(q.Drops)
		owned[owns.Check(p).Kind == api.OK]++
	}
	// Without these there would be nothing to see.
	if faults[api.OK] < 300 || faults[api.ErrMany] < 10 || drops < 500 || owned[true] < 200 || owned[false] < 50 {
		t.Error(faults, drops, owned)
	}
	for n, many := range sizes {
		if many < 10 {
			t.Error("size", n, many)
		}
	}
}
