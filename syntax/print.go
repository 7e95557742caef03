package syntax

import (
	"strconv"
	"strings"

	"holdfast/api"
)

// writer gathers the tokens of a tree's text.
type writer struct {
	pieces []string
}

func (w *writer) put(pieces ...string) {
	w.pieces = append(w.pieces, pieces...)
}

// when puts pieces that stand there only if something holds.
func (w *writer) when(holds bool, pieces ...string) {
	if holds {
		w.put(pieces...)
	}
}

// path puts a name, of which `::` is a token of its own.
func (w *writer) path(name string) {
	w.put(strings.ReplaceAll(name, "::", " :: "))
}

func (w *writer) nodes(nodes ...api.Node) {
	for _, n := range nodes {
		w.node(n)
	}
}

// between writes nodes with a sign between them.
func (w *writer) between(sign string, nodes ...api.Node) {
	for i, n := range nodes {
		w.when(i > 0, sign)
		w.node(n)
	}
}

// row writes a list from its beginning to its end.
func (w *writer) row(begin, end string, nodes ...api.Node) {
	w.put(begin)
	w.between(",", nodes...)
	w.put(end)
}

// angles writes a list in `< >`, if anything is in it.
func (w *writer) angles(nodes ...api.Node) {
	if len(nodes) > 0 {
		w.row("<", ">", nodes...)
	}
}

// node writes a node of any kind. The kinds stand in groups.
func (w *writer) node(n api.Node) {
	switch {
	case n.Kind <= api.Param:
		w.item(n)
	case n.Kind <= api.YLife:
		w.typeNode(n)
	case n.Kind < api.PAny:
		w.expression(n)
	default:
		w.pattern(n)
	}
}

func (w *writer) item(n api.Node) {
	switch n.Kind {
	case api.Prog:
		w.nodes(n.Kids...)
	case api.Mod:
		w.put("mod", n.Name, "{")
		w.nodes(n.Kids...)
		w.put("}")
	case api.Use:
		w.put("use")
		w.path(n.Name)
		w.put(";")
	case api.Data:
		w.data(n)
	case api.Variant:
		w.variant(n)
	case api.Field, api.Param:
		w.typed(n)
	case api.Trait:
		w.trait(n)
	case api.Impl:
		w.impl(n)
	case api.Fn:
		w.function(n)
	case api.Gens:
		w.angles(n.Kids...)
	case api.GLife, api.GType:
		w.put(n.Name)
		w.when(len(n.Kids) > 0, ":")
		w.between("+", n.Kids...)
	}
}

func (w *writer) data(n api.Node) {
	w.when(n.M&1 != 0, "pub")
	w.when(n.M&2 != 0, "copy")
	if n.N == 0 {
		w.put("struct", n.Name)
		w.nodes(n.Kids...)
		return
	}
	w.put("enum", n.Name)
	w.node(n.Kids[0])
	w.row("{", "}", n.Kids[1:]...)
}

// variant writes a variant of an enum, or that of a struct, which has no name.
func (w *writer) variant(n api.Node) {
	if n.Name == "" {
		w.row("{", "}", n.Kids...)
		return
	}
	w.put(n.Name)
	if len(n.Kids) > 0 {
		w.row("(", ")", n.Kids...)
	}
}

// typed writes a field, which in an enum has no name, or a parameter.
func (w *writer) typed(n api.Node) {
	w.when(n.M == 1 && n.Kind == api.Field, "pub")
	w.when(n.M == 1 && n.Kind == api.Param, "mut")
	w.when(n.Name != "", n.Name, ":")
	w.nodes(n.Kids...)
}

func (w *writer) trait(n api.Node) {
	w.when(n.M == 1, "pub")
	w.put("trait", n.Name, "{")
	for _, method := range n.Kids {
		w.node(method)
		w.put(";")
	}
	w.put("}")
}

func (w *writer) impl(n api.Node) {
	w.put("impl")
	w.node(n.Kids[0])
	w.path(n.Name)
	w.put("for")
	w.node(n.Kids[1])
	w.put("{")
	w.nodes(n.Kids[2:]...)
	w.put("}")
}

func (w *writer) function(n api.Node) {
	w.when(n.M == 1, "pub")
	w.put("fn", n.Name)
	params := 1 + n.N
	w.node(n.Kids[0])
	w.row("(", ")", n.Kids[1:params]...)
	w.result(n.Kids[params])
	w.nodes(n.Kids[params+1:]...)
}

// result writes the type that a function gives, unless it is the empty tuple.
func (w *writer) result(n api.Node) {
	if n.Kind == api.YTuple && len(n.Kids) == 0 {
		return
	}
	w.put("->")
	w.node(n)
}

func (w *writer) typeNode(n api.Node) {
	switch n.Kind {
	case api.YInt:
		w.put("int")
	case api.YBool:
		w.put("bool")
	case api.YTuple:
		w.row("(", ")", n.Kids...)
	case api.YRef:
		w.put("&")
		w.when(n.Name != "", n.Name)
		w.when(n.N == 1, "mut")
		w.nodes(n.Kids...)
	case api.YFn:
		last := len(n.Kids) - 1
		w.put("fn")
		w.when(n.Name != "", n.Name)
		w.fnKind(n.N)
		w.row("(", ")", n.Kids[:last]...)
		w.put("->")
		w.node(n.Kids[last])
	case api.YPath:
		w.path(n.Name)
		w.angles(n.Kids...)
	case api.YLife:
		w.put(n.Name)
	}
}

// fnKind writes the word that says of which kind a closure is.
func (w *writer) fnKind(kind int) {
	w.when(kind == api.FnMut, "mut")
	w.when(kind == api.FnOnce, "once")
}

func (w *writer) pattern(n api.Node) {
	switch n.Kind {
	case api.PAny:
		w.put("_")
	case api.PBind:
		w.when(n.N > 0, "ref")
		w.when(n.N == 2 || n.M == 1, "mut")
		w.put(n.Name)
	case api.PInt:
		digits := strconv.Itoa(n.N)
		w.when(n.N < 0, "-")
		w.put(strings.TrimPrefix(digits, "-"))
	case api.PBool:
		w.boolean(n.N)
	case api.PTuple:
		w.row("(", ")", n.Kids...)
	case api.PCase:
		w.path(n.Name)
		if len(n.Kids) > 0 {
			w.row("(", ")", n.Kids...)
		}
	}
}

func (w *writer) boolean(n int) {
	w.when(n == 1, "true")
	w.when(n == 0, "false")
}
