package syntax

import (
	"strconv"

	"holdfast/api"
)

func (w *writer) expression(n api.Node) {
	switch n.Kind {
	case api.EInt:
		w.put(strconv.Itoa(n.N))
	case api.EBool:
		w.boolean(n.N)
	case api.ETuple:
		w.row("(", ")", n.Kids...)
	case api.EPath:
		w.path(n.Name)
		w.typesBehind(n.Kids...)
	case api.ECall:
		w.operand(n.Kids[0])
		w.row("(", ")", n.Kids[1:]...)
	case api.EField:
		w.field(n)
	case api.EDeref, api.ERef, api.EUn:
		w.prefixed(n)
	case api.EBin, api.EAnd, api.EOr, api.EAssign:
		w.operand(n.Kids[0])
		w.put(sign(n))
		w.operand(n.Kids[1])
	case api.EMake, api.EInit, api.EClosure, api.ECapture, api.ESpawn:
		w.made(n)
	default:
		w.flow(n)
	}
}

// flow writes an expression that says where to go on.
func (w *writer) flow(n api.Node) {
	switch n.Kind {
	case api.EIf:
		w.put("if")
		w.operand(n.Kids[0])
		w.node(n.Kids[1])
		w.when(len(n.Kids) > 2, "else")
		w.nodes(n.Kids[2:]...)
	case api.EMatch:
		w.put("match")
		w.operand(n.Kids[0])
		w.row("{", "}", n.Kids[1:]...)
	case api.Arm:
		w.between("=>", n.Kids...)
	case api.EWhile:
		w.put("while")
		w.operand(n.Kids[0])
		w.node(n.Kids[1])
	case api.ELoop:
		w.put("loop")
		w.nodes(n.Kids...)
	case api.EBreak:
		w.put("break")
	case api.ENext:
		w.put("next")
	case api.EReturn:
		w.put("return")
		w.nodes(n.Kids...)
	case api.EPanic:
		w.put("panic")
	case api.EBlock:
		w.block(n)
	case api.ELet:
		w.let(n)
	}
}

// made writes an expression that makes a struct, a closure or a thread, or a part of one.
func (w *writer) made(n api.Node) {
	switch n.Kind {
	case api.EMake:
		w.put("make")
		w.path(n.Name)
		w.typesBehind(n.Kids[:n.M]...)
		w.row("{", "}", n.Kids[n.M:]...)
	case api.EInit:
		w.put(n.Name, ":")
		w.nodes(n.Kids...)
	case api.EClosure:
		last := len(n.Kids) - 2
		w.put("fn")
		w.fnKind(n.N)
		w.row("[", "]", n.Kids[:n.M]...)
		w.row("(", ")", n.Kids[n.M:last]...)
		w.result(n.Kids[last])
		w.node(n.Kids[last+1])
	case api.ESpawn:
		w.put("spawn")
		w.row("[", "]", n.Kids[:n.M]...)
		w.result(n.Kids[n.M])
		w.node(n.Kids[n.M+1])
	case api.ECapture:
		w.when(n.N > 0, "&")
		w.when(n.N == 2, "mut")
		w.put(n.Name)
	}
}

// operand writes an expression within another one: in `( )`, unless nothing around it could tear it apart.
func (w *writer) operand(n api.Node) {
	switch n.Kind {
	case api.EInt, api.EBool, api.ETuple, api.EPath, api.ECall, api.EField, api.EMake:
		w.node(n)
	default:
		w.row("(", ")", n)
	}
}

func (w *writer) typesBehind(types ...api.Node) {
	w.when(len(types) > 0, "::")
	w.angles(types...)
}

func (w *writer) field(n api.Node) {
	w.operand(n.Kids[0])
	w.put(".")
	if n.Name == "" {
		w.put(strconv.Itoa(n.N))
		return
	}
	w.put(n.Name)
}

func (w *writer) prefixed(n api.Node) {
	switch n.Kind {
	case api.EDeref:
		w.put("*")
	case api.ERef:
		w.put("&")
		w.when(n.N == 1, "mut")
	case api.EUn:
		w.put(n.Name)
	}
	w.operand(n.Kids[0])
}

// sign is what stands between the two operands of a node.
func sign(n api.Node) string {
	switch n.Kind {
	case api.EAnd:
		return "&&"
	case api.EOr:
		return "||"
	case api.EAssign:
		return "="
	}
	return n.Name
}

func (w *writer) block(n api.Node) {
	w.put("{")
	for i, statement := range n.Kids {
		w.node(statement)
		w.when(n.N == 0 || i < len(n.Kids)-1, ";")
	}
	w.put("}")
}

// let writes a let without the `;` that its block puts behind it.
func (w *writer) let(n api.Node) {
	w.put("let")
	w.when(n.M == 1, "mut")
	w.put(n.Name)
	kids := n.Kids
	if n.N&1 != 0 {
		w.put(":")
		w.node(kids[0])
		kids = kids[1:]
	}
	if n.N&2 != 0 {
		w.put("=")
		w.node(kids[0])
	}
}
