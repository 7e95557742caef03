package syntax

import (
	"strconv"
	"strings"

	"holdfast/api"
)

// maker makes up texts by the grammar, and the trees that they must have. While it makes one, a node's At is twice the number of its token, and one more for the second byte of `&&`.
type maker struct {
	state  uint64
	tokens []string
	left   int // how many things may still be made: then they become as small as can be
}

// makeText answers a text and its tree; each seed makes another one.
func makeText(seed int) (string, api.Node) {
	m := &maker{state: uint64(seed)*2 + 1, left: 20 + seed%200}
	tree := m.program()
	text, places := m.layout()
	return text, placed(tree, places)
}

// pick answers a number below n. It is the same ones for the same seed.
func (m *maker) pick(n int) int {
	m.state = m.state*6364136223846793005 + 1442695040888963407
	return int(m.state >> 33 % uint64(n))
}

func (m *maker) chance() bool {
	return m.pick(2) == 0
}

// small says whether a thing must have nothing in it.
func (m *maker) small() bool {
	m.left--
	return m.left < 0
}

func (m *maker) put(tokens ...string) {
	m.tokens = append(m.tokens, tokens...)
}

// maybe puts a token or not, and answers 1 or 0.
func (m *maker) maybe(token string) int {
	if m.chance() {
		return 0
	}
	m.put(token)
	return 1
}

// at is a node that begins with the token that comes next.
func (m *maker) at(kind int) api.Node {
	return api.Node{Kind: kind, At: 2 * len(m.tokens)}
}

// layout writes the tokens with blanks and remarks between, and answers where each of them begins.
func (m *maker) layout() (string, []int) {
	var text strings.Builder
	var places []int
	last := "("
	for _, token := range m.tokens {
		// Next to these signs two tokens cannot become one.
		if m.chance() || !strings.Contains("(){}[],;", last[:1]) && !strings.Contains("(){}[],;", token[:1]) {
			text.WriteString([]string{" ", "\t", "\n", "  ", "# 'é\x80 {\n"}[m.pick(5)])
		}
		places = append(places, text.Len())
		text.WriteString(token)
		last = token
	}
	return text.String(), places
}

// placed is a tree with the places of its tokens.
func placed(n api.Node, places []int) api.Node {
	if n.At/2 < len(places) {
		n.At = places[n.At/2] + n.At%2
	}
	kids := n.Kids
	n.Kids = nil
	for _, kid := range kids {
		n.Kids = append(n.Kids, placed(kid, places))
	}
	return n
}

func (m *maker) name() string {
	name := []string{"a", "b2", "Self", "x_y", "main", "T"}[m.pick(6)]
	m.put(name)
	return name
}

func (m *maker) life() string {
	life := []string{"'a", "'static", "'mut"}[m.pick(3)]
	m.put(life)
	return life
}

func (m *maker) path(most int) string {
	path := m.name()
	for range m.pick(most) {
		m.put("::")
		path += "::" + m.name()
	}
	return path
}

func (m *maker) number() int {
	n := []int{0, 1, 42, 9223372036854775807}[m.pick(4)]
	m.put([]string{"", "0", "000"}[m.pick(3)] + strconv.Itoa(n))
	return n
}

// list makes so many things at least, with a sign between them, and perhaps one behind the last.
func (m *maker) list(least int, sign string, loose bool, make func() api.Node) []api.Node {
	var all []api.Node
	count := least
	if !m.small() {
		count += m.pick(3)
	}
	for i := range count {
		if i > 0 {
			m.put(sign)
		}
		all = append(all, make())
	}
	if loose && count > 0 {
		m.maybe(sign)
	}
	return all
}

func (m *maker) program() api.Node {
	n := api.Node{Kind: api.Prog}
	for range m.pick(4) {
		n.Kids = append(n.Kids, m.module())
	}
	if len(n.Kids) == 0 {
		n.Kids = append(n.Kids, m.module())
	}
	return n
}

func (m *maker) module() api.Node {
	n := m.at(api.Mod)
	m.put("mod")
	n.Name = m.name()
	m.put("{")
	for range m.pick(3) {
		use := m.at(api.Use)
		m.put("use")
		use.Name = m.name() + "::"
		m.put("::")
		use.Name += m.name()
		m.put(";")
		n.Kids = append(n.Kids, use)
	}
	for range m.pick(5) {
		n.Kids = append(n.Kids, m.item())
	}
	m.put("}")
	return n
}

func (m *maker) item() api.Node {
	if m.pick(5) == 0 {
		return m.impl()
	}
	begin := m.at(0)
	mark := m.maybe("pub")
	var n api.Node
	switch m.pick(5) {
	case 0:
		mark += 2 * m.maybe("copy")
		n = m.structure()
	case 1:
		mark += 2 * m.maybe("copy")
		n = m.enum()
	case 2:
		n = m.trait()
	default:
		n = m.function(true, true)
	}
	n.At, n.M = begin.At, mark
	return n
}

func (m *maker) structure() api.Node {
	n := m.at(api.Data)
	m.put("struct")
	n.Name = m.name()
	gens := m.gens(false)
	variant := m.at(api.Variant)
	m.put("{")
	variant.Kids = m.list(0, ",", true, func() api.Node { return m.typed(api.Field, "pub") })
	m.put("}")
	n.Kids = []api.Node{gens, variant}
	return n
}

func (m *maker) typed(kind int, word string) api.Node {
	n := m.at(kind)
	n.M = m.maybe(word)
	n.Name = m.name()
	m.put(":")
	n.Kids = []api.Node{m.anyType()}
	return n
}

func (m *maker) enum() api.Node {
	n := m.at(api.Data)
	n.N = 1
	m.put("enum")
	n.Name = m.name()
	n.Kids = append(n.Kids, m.gens(false))
	m.put("{")
	n.Kids = append(n.Kids, m.list(0, ",", true, func() api.Node {
		variant := m.at(api.Variant)
		variant.Name = m.name()
		if m.chance() {
			m.put("(")
			variant.Kids = m.list(1, ",", false, func() api.Node {
				kid := m.anyType()
				return api.Node{Kind: api.Field, At: kid.At, Kids: []api.Node{kid}}
			})
			m.put(")")
		}
		return variant
	})...)
	m.put("}")
	return n
}

func (m *maker) trait() api.Node {
	n := m.at(api.Trait)
	m.put("trait")
	n.Name = m.name()
	m.put("{")
	for range m.pick(3) {
		n.Kids = append(n.Kids, m.function(false, false))
		m.put(";")
	}
	m.put("}")
	return n
}

func (m *maker) impl() api.Node {
	n := m.at(api.Impl)
	m.put("impl")
	gens := m.gens(true)
	n.Name = m.path(2)
	m.put("for")
	n.Kids = []api.Node{gens, m.anyType()}
	m.put("{")
	for range m.pick(3) {
		n.Kids = append(n.Kids, m.function(false, true))
	}
	m.put("}")
	return n
}

func (m *maker) function(gens, block bool) api.Node {
	n := m.at(api.Fn)
	m.put("fn")
	n.Name = m.name()
	if gens {
		n.Kids = append(n.Kids, m.gens(true))
	} else {
		n.Kids = append(n.Kids, m.at(api.Gens))
	}
	params := m.params()
	n.N = len(params)
	n.Kids = append(n.Kids, params...)
	n.Kids = append(n.Kids, m.result())
	if block {
		n.Kids = append(n.Kids, m.block())
	}
	return n
}

func (m *maker) params() []api.Node {
	m.put("(")
	params := m.list(0, ",", false, func() api.Node { return m.typed(api.Param, "mut") })
	m.put(")")
	return params
}

func (m *maker) result() api.Node {
	if m.chance() {
		return m.at(api.YTuple)
	}
	m.put("->")
	return m.anyType()
}

func (m *maker) gens(bounds bool) api.Node {
	n := m.at(api.Gens)
	if m.chance() {
		return n
	}
	m.put("<")
	n.Kids = m.lifesFirst(func() api.Node {
		gen := m.at(api.GLife)
		gen.Name = m.life()
		gen.Kids = m.bounds(bounds, m.lifeType)
		return gen
	}, func() api.Node {
		gen := m.at(api.GType)
		gen.Name = m.name()
		gen.Kids = m.bounds(bounds, func() api.Node {
			if m.chance() {
				return m.lifeType()
			}
			path := m.at(api.YPath)
			path.Name = m.path(2)
			return path
		})
		return gen
	})
	m.put(">")
	return n
}

func (m *maker) bounds(may bool, make func() api.Node) []api.Node {
	if !may || m.chance() {
		return nil
	}
	m.put(":")
	return m.list(1, "+", false, make)
}

// lifesFirst makes one thing at least, lifetimes ahead of others.
func (m *maker) lifesFirst(life, other func() api.Node) []api.Node {
	var all []api.Node
	switch m.pick(3) {
	case 0:
		return m.list(1, ",", false, life)
	case 1:
		all = m.list(1, ",", false, life)
		m.put(",")
	}
	return append(all, m.list(1, ",", false, other)...)
}

func (m *maker) lifeType() api.Node {
	n := m.at(api.YLife)
	n.Name = m.life()
	return n
}

func (m *maker) anyType() api.Node {
	n := m.at(api.YInt)
	choice := m.pick(9)
	if m.small() {
		choice %= 3
	}
	switch choice {
	case 0:
		m.put("int")
	case 1:
		n.Kind = api.YBool
		m.put("bool")
	case 2:
		n.Kind = api.YPath
		n.Name = m.path(2)
	case 3:
		n.Kind = api.YPath
		n.Name = m.path(2)
		m.put("<")
		n.Kids = m.lifesFirst(m.lifeType, m.anyType)
		m.put(">")
	case 4:
		return m.fnType()
	case 5:
		return m.refType()
	default:
		return m.group(api.YTuple, m.anyType)
	}
	return n
}

func (m *maker) fnType() api.Node {
	n := m.at(api.YFn)
	m.put("fn")
	if m.chance() {
		n.Name = m.life()
	}
	n.N = m.fnKind()
	m.put("(")
	n.Kids = m.list(0, ",", false, m.anyType)
	m.put(")", "->")
	n.Kids = append(n.Kids, m.anyType())
	return n
}

func (m *maker) fnKind() int {
	kind := m.pick(3)
	m.put([][]string{{}, {"mut"}, {"once"}}[kind]...)
	return kind
}

func (m *maker) refType() api.Node {
	n := m.at(api.YRef)
	if m.chance() {
		m.put("&&")
		inner := api.Node{Kind: api.YRef, At: n.At + 1}
		m.lentType(&inner)
		n.Kids = []api.Node{inner}
		return n
	}
	m.put("&")
	m.lentType(&n)
	return n
}

func (m *maker) lentType(n *api.Node) {
	if m.chance() {
		n.Name = m.life()
	}
	n.N = m.maybe("mut")
	n.Kids = []api.Node{m.anyType()}
}

// group makes things in `( )`: one is itself.
func (m *maker) group(kind int, make func() api.Node) api.Node {
	n := m.at(kind)
	m.put("(")
	n.Kids = m.list(0, ",", false, make)
	m.put(")")
	if len(n.Kids) == 1 {
		return n.Kids[0]
	}
	return n
}

// expression makes one behind which stands one of `; } ) , ]`.
func (m *maker) expression() api.Node {
	return m.closed(false)
}

// closed makes such an expression; at the beginning of a statement none that is one alone.
func (m *maker) closed(statement bool) api.Node {
	n := m.at(api.EReturn)
	switch m.pick(12) {
	case 0:
		m.put("return")
		return n
	case 1:
		m.put("return")
		n.Kids = []api.Node{m.expression()}
		return n
	}
	return m.line(1, statement)
}

// line makes an expression of a line of the grammar.
func (m *maker) line(line int, statement bool) api.Node {
	if m.pick(3) > 0 || m.small() {
		return m.tighter(line, statement)
	}
	switch line {
	case 1:
		return m.between(1, api.EAssign, "=", m.line(2, statement))
	case 2:
		return m.between(3, api.EOr, "||", m.line(2, statement))
	case 3:
		return m.between(4, api.EAnd, "&&", m.line(3, statement))
	case 4:
		return m.between(5, api.EBin, []string{"==", "!=", "<=", ">=", "<", ">"}[m.pick(6)], m.line(5, statement))
	case 5:
		return m.between(6, api.EBin, []string{"+", "-"}[m.pick(2)], m.line(5, statement))
	case 6:
		return m.between(7, api.EBin, []string{"*", "/", "%"}[m.pick(3)], m.line(6, statement))
	case 7:
		return m.prefixed()
	}
	return m.extended(statement)
}

func (m *maker) tighter(line int, statement bool) api.Node {
	if line < 8 {
		return m.line(line+1, statement)
	}
	return m.thing(statement)
}

// between makes an operator behind its left operand, and a right operand of another line.
func (m *maker) between(right, kind int, sign string, left api.Node) api.Node {
	n := m.at(kind)
	m.put(sign)
	if kind == api.EBin {
		n.Name = sign
	}
	n.Kids = []api.Node{left, m.line(right, false)}
	return n
}

func (m *maker) prefixed() api.Node {
	n := m.at(api.EUn)
	switch m.pick(5) {
	case 0, 1:
		n.Name = []string{"-", "!"}[m.pick(2)]
		m.put(n.Name)
	case 2:
		n.Kind = api.EDeref
		m.put("*")
	case 3:
		n.Kind = api.ERef
		m.put("&")
		n.N = m.maybe("mut")
	case 4:
		n.Kind = api.ERef
		inner := api.Node{Kind: api.ERef, At: n.At + 1}
		m.put("&&")
		inner.N = m.maybe("mut")
		inner.Kids = []api.Node{m.line(7, false)}
		n.Kids = []api.Node{inner}
		return n
	}
	n.Kids = []api.Node{m.line(7, false)}
	return n
}

func (m *maker) extended(statement bool) api.Node {
	left := m.line(8, statement)
	n := m.at(api.EField)
	n.Kids = []api.Node{left}
	switch m.pick(3) {
	case 0:
		m.put(".")
		n.Name = m.name()
	case 1:
		m.put(".")
		n.N = m.number()
	case 2:
		n.Kind = api.ECall
		m.put("(")
		n.Kids = append(n.Kids, m.list(0, ",", false, m.expression)...)
		m.put(")")
	}
	return n
}

func (m *maker) thing(statement bool) api.Node {
	choice := m.pick(14)
	if m.small() {
		choice %= 6
	}
	n := m.at(api.EInt)
	switch choice {
	case 0:
		n.N = m.number()
	case 1, 2:
		n.Kind = api.EPath
		n.Name = m.path(3)
		n.Kids = m.typesBehind()
	case 3:
		n.Kind = api.EBool
		n.N = m.pick(2)
		m.put([]string{"false", "true"}[n.N])
	case 4:
		n.Kind = []int{api.EBreak, api.ENext, api.EPanic}[m.pick(3)]
		m.put(map[int]string{api.EBreak: "break", api.ENext: "next", api.EPanic: "panic"}[n.Kind])
	case 5, 6:
		return m.group(api.ETuple, m.expression)
	case 7:
		return m.make()
	case 8, 9:
		return m.closure()
	default:
		if !statement {
			return m.alone()
		}
		m.put("panic")
		n.Kind = api.EPanic
	}
	return n
}

func (m *maker) typesBehind() []api.Node {
	if m.chance() || m.small() {
		return nil
	}
	m.put("::", "<")
	types := m.list(1, ",", false, m.anyType)
	m.put(">")
	return types
}

func (m *maker) make() api.Node {
	n := m.at(api.EMake)
	m.put("make")
	n.Name = m.path(2)
	n.Kids = m.typesBehind()
	n.M = len(n.Kids)
	m.put("{")
	n.Kids = append(n.Kids, m.list(0, ",", true, func() api.Node {
		field := m.at(api.EInit)
		field.Name = m.name()
		m.put(":")
		field.Kids = []api.Node{m.expression()}
		return field
	})...)
	m.put("}")
	return n
}

// closure makes a closure or a thread.
func (m *maker) closure() api.Node {
	n := m.at(api.ESpawn)
	spawn := m.chance()
	if spawn {
		m.put("spawn")
	} else {
		n.Kind = api.EClosure
		m.put("fn")
		n.N = m.fnKind()
	}
	m.put("[")
	n.Kids = m.list(0, ",", false, func() api.Node {
		capture := m.at(api.ECapture)
		capture.N = m.pick(3)
		m.put([][]string{{}, {"&"}, {"&", "mut"}}[capture.N]...)
		capture.Name = m.name()
		return capture
	})
	m.put("]")
	n.M = len(n.Kids)
	if !spawn {
		n.Kids = append(n.Kids, m.params()...)
	}
	n.Kids = append(n.Kids, m.result())
	n.Kids = append(n.Kids, m.block())
	return n
}

// alone makes one of the things that are statements with nothing behind them.
func (m *maker) alone() api.Node {
	n := m.at(api.ELoop)
	switch m.pick(5) {
	case 0:
		return m.branch()
	case 1:
		n.Kind = api.EMatch
		m.put("match")
		n.Kids = []api.Node{m.line(1, false)}
		m.put("{")
		n.Kids = append(n.Kids, m.list(0, ",", true, func() api.Node {
			arm := m.at(api.Arm)
			pattern := m.pattern()
			m.put("=>")
			arm.Kids = []api.Node{pattern, m.expression()}
			return arm
		})...)
		m.put("}")
	case 2:
		n.Kind = api.EWhile
		m.put("while")
		condition := m.line(1, false)
		n.Kids = []api.Node{condition, m.block()}
	case 3:
		m.put("loop")
		n.Kids = []api.Node{m.block()}
	case 4:
		return m.block()
	}
	return n
}

func (m *maker) branch() api.Node {
	n := m.at(api.EIf)
	m.put("if")
	condition := m.line(1, false)
	n.Kids = []api.Node{condition, m.block()}
	switch m.pick(3) {
	case 0:
		m.put("else")
		n.Kids = append(n.Kids, m.block())
	case 1:
		m.put("else")
		n.Kids = append(n.Kids, m.branch())
	}
	return n
}

func (m *maker) block() api.Node {
	n := m.at(api.EBlock)
	m.put("{")
	count := m.pick(4)
	if m.small() {
		count = 0
	}
	for i := range count {
		last := i == count-1
		switch m.pick(3) {
		case 0:
			n.Kids = append(n.Kids, m.let())
		case 1:
			n.Kids = append(n.Kids, m.alone())
			if m.maybe(";") == 0 && last {
				n.N = 1
			}
		case 2:
			n.Kids = append(n.Kids, m.closed(true))
			if last && m.chance() {
				n.N = 1
			} else {
				m.put(";")
			}
		}
	}
	m.put("}")
	return n
}

func (m *maker) let() api.Node {
	n := m.at(api.ELet)
	m.put("let")
	n.M = m.maybe("mut")
	n.Name = m.name()
	if m.chance() {
		m.put(":")
		n.N++
		n.Kids = append(n.Kids, m.anyType())
	}
	if m.chance() {
		m.put("=")
		n.N += 2
		n.Kids = append(n.Kids, m.expression())
	}
	m.put(";")
	return n
}

func (m *maker) pattern() api.Node {
	choice := m.pick(10)
	if m.small() {
		choice %= 8
	}
	n := m.at(api.PAny)
	switch choice {
	case 0:
		m.put("_")
	case 1:
		n.Kind = api.PInt
		n.N = m.number()
	case 2:
		n.Kind = api.PInt
		m.put("-")
		n.N = -m.number()
	case 3:
		n.Kind = api.PBool
		n.N = m.pick(2)
		m.put([]string{"false", "true"}[n.N])
	case 4:
		n.Kind = api.PBind
		n.N = 1 + m.pick(2)
		m.put([][]string{{"ref"}, {"ref", "mut"}}[n.N-1]...)
		n.Name = m.name()
	case 5:
		n.Kind = api.PBind
		n.M = m.maybe("mut")
		n.Name = m.name()
	case 6, 7:
		n.Kind = api.PCase
		n.Name = m.name() + "::"
		m.put("::")
		n.Name += m.path(2)
		if !m.small() && m.chance() {
			m.put("(")
			n.Kids = m.list(1, ",", false, m.pattern)
			m.put(")")
		}
	default:
		return m.group(api.PTuple, m.pattern)
	}
	return n
}
