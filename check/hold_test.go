package check

import (
	"fmt"
	"reflect"
	"slices"
	"strings"
	"testing"

	"holdfast/api"
	"holdfast/scope"
	"holdfast/traits"
)

// judge goes through a typed program beside the given one, and looks whether each node is as the chapter says, whatever way it has been found. It finds no types: it takes those that are told.
type judge struct {
	t           *testing.T
	text        string
	given, made api.Program
	closures    int // how many functions of closures it has come to

	fn    api.FnDef
	vars  int      // how many variables have come
	names []judged // those in sight
	loops []bool   // of each loop around, whether an EBreak is of it
}

type judged struct {
	name string
	kind int
	n    int
}

var (
	tNever = api.Type{}
	tInt   = api.Type{Kind: api.TyInt}
	tBool  = api.Type{Kind: api.TyBool}
	tEmpty = api.Type{Kind: api.TyTuple}
)

// hold looks at a whole program.
func hold(t *testing.T, text string, given, made api.Program) {
	t.Helper()
	j := &judge{t: t, text: text, given: given, made: made}
	rest := made
	rest.Fns = given.Fns
	if !reflect.DeepEqual(rest, given) {
		t.Errorf("%q: not only functions are others", text)
	}
	if len(made.Fns) < len(given.Fns) {
		t.Fatalf("%q: functions are missing", text)
	}
	for i, f := range given.Fns {
		head := made.Fns[i]
		count := len(f.Vars)
		head.Vars, head.Body = head.Vars[:count], f.Body
		j.must(reflect.DeepEqual(head, f), f.Body, "function %s", tellFn(made.Fns[i]))
		j.body(made.Fns[i], f.Body, count)
	}
	j.must(len(made.Fns) == len(given.Fns)+j.closures, api.Node{}, "%d functions", len(made.Fns))
}

func (j *judge) must(ok bool, n api.Node, what string, args ...any) {
	j.t.Helper()
	if !ok {
		j.t.Errorf("%q, at %d: %s: %s", j.text, n.At, tell(n), fmt.Sprintf(what, args...))
	}
}

// body goes through the body of a function, whose first variables have come already.
func (j *judge) body(f api.FnDef, block api.Node, count int) {
	j.t.Helper()
	j.fn, j.vars, j.names, j.loops = f, count, nil, nil
	for i := range f.Env {
		j.names = append(j.names, judged{name: j.capturedName(f, i), kind: api.ECap, n: i})
	}
	for i, v := range f.Vars[:count] {
		j.names = append(j.names, judged{name: v.Name, kind: api.EVar, n: i})
	}
	j.gives(f.Body, f.Sig.Out)
	j.expression(f.Body, block)
	j.must(j.vars == len(f.Vars), f.Body, "%d variables, not %d", len(f.Vars), j.vars)
}

// capturedName is the name that a closure's captured thing has in the text.
func (j *judge) capturedName(f api.FnDef, n int) string {
	rest := j.text[f.At:]
	names := strings.Split(rest[strings.Index(rest, "[")+1:strings.Index(rest, "]")], ",")
	return strings.TrimSpace(strings.TrimPrefix(strings.TrimPrefix(strings.TrimSpace(names[n]), "&"), "mut "))
}

// gives looks whether an expression gives a value of a type, or goes elsewhere.
func (j *judge) gives(n api.Node, t api.Type) {
	j.t.Helper()
	j.must(n.Type.Kind == api.TyNever || scope.Same(n.Type, t), n, "not of type %s", tellType(t))
}

func (j *judge) is(n api.Node, t api.Type) {
	j.t.Helper()
	j.must(reflect.DeepEqual(n.Type, scope.Lifeless(t)), n, "its type is not %s", tellType(t))
}

// count is how many parts a type has.
func count(t api.Type) int {
	parts := 1
	for _, arg := range t.Args {
		parts += count(arg)
	}
	return parts
}

// kids goes through expressions from left to right.
func (j *judge) kids(made, given []api.Node) {
	j.t.Helper()
	if len(made) != len(given) {
		j.t.Fatalf("%q: %d kids, not %d", j.text, len(made), len(given))
	}
	for i := range made {
		j.expression(made[i], given[i])
	}
}

// expression looks at a node that has come of a given one.
func (j *judge) expression(n, given api.Node) {
	j.t.Helper()
	j.must(n.At == given.At, n, "at another place than %d", given.At)
	j.must(reflect.DeepEqual(n.Type, scope.Lifeless(n.Type)), n, "lifetimes")
	j.must(count(n.Type) <= api.MaxParts, n, "too big")
	want := given
	want.Type, want.Kids, want.Args = n.Type, n.Kids, n.Args
	switch given.Kind {
	case api.EPath, api.ECall, api.EField, api.ELet, api.EMake, api.EClosure, api.ESpawn:
		j.other(n, given)
		return
	case api.EBlock, api.EMatch, api.EWhile, api.ELoop:
		j.inner(n, given)
	default:
		j.kids(n.Kids, given.Kids)
	}
	j.must(reflect.DeepEqual(n, want) && len(n.Args) == 0, n, "another node than %v", want)
	j.simple(n)
}

// simple looks at the types of nodes that stay what they are.
func (j *judge) simple(n api.Node) {
	j.t.Helper()
	switch n.Kind {
	case api.EInt:
		j.is(n, tInt)
	case api.EBool:
		j.is(n, tBool)
	case api.ETuple:
		j.must(n.Type.Kind == api.TyTuple && len(n.Type.Args) == len(n.Kids), n, "no such tuple")
		for i, kid := range n.Kids {
			j.gives(kid, n.Type.Args[i])
		}
	case api.EDeref:
		from := n.Kids[0].Type
		j.must(from.Kind == api.TyRef || from.Kind == api.TyMut || from.Kind == api.TyLib && from.N == api.LyBox, n, "leads nowhere")
		j.is(n, from.Args[0])
	case api.ERef:
		j.must(n.Type.Kind == []int{api.TyRef, api.TyMut}[n.N], n, "no such reference")
		j.gives(n.Kids[0], n.Type.Args[0])
	case api.EUn, api.EAnd, api.EOr, api.EBin:
		j.operator(n)
	case api.EAssign:
		place := n.Kids[0]
		for place.Kind == api.EField {
			place = place.Kids[0]
		}
		j.must(place.Kind == api.EVar || place.Kind == api.ECap || place.Kind == api.EDeref, n, "no place")
		j.gives(n.Kids[1], n.Kids[0].Type)
		j.is(n, tEmpty)
	case api.EIf:
		j.gives(n.Kids[0], tBool)
		if len(n.Kids) == 2 {
			j.gives(n.Kids[1], tEmpty)
			j.is(n, tEmpty)
			return
		}
		j.oneOf(n, n.Kids[1:])
	case api.EBreak, api.ENext:
		j.must(len(j.loops) > 0, n, "of no loop")
		if n.Kind == api.EBreak {
			j.loops[len(j.loops)-1] = true
		}
		j.is(n, tNever)
	case api.EReturn:
		if len(n.Kids) == 1 {
			j.gives(n.Kids[0], j.fn.Sig.Out)
		} else {
			j.must(scope.Same(j.fn.Sig.Out, tEmpty), n, "returns nothing")
		}
		j.is(n, tNever)
	case api.EPanic:
		j.is(n, tNever)
	}
}

func (j *judge) operator(n api.Node) {
	of, out := tInt, tInt
	switch n.Name {
	case "", "!":
		of, out = tBool, tBool
	case "<", "<=", ">", ">=":
		out = tBool
	case "==", "!=":
		of, out = n.Kids[0].Type, tBool
		j.must(of.Kind == api.TyInt || of.Kind == api.TyBool, n, "not to be held against another")
	}
	for _, kid := range n.Kids {
		j.gives(kid, of)
	}
	j.is(n, out)
}

// oneOf looks whether the type of a node is that of the first one of others that does not go elsewhere.
func (j *judge) oneOf(n api.Node, others []api.Node) {
	t := tNever
	for _, other := range others {
		if t.Kind == api.TyNever {
			t = other.Type
		}
		j.gives(other, t)
	}
	j.is(n, t)
}

// inner goes through what has names or loops of its own.
func (j *judge) inner(n, given api.Node) {
	j.t.Helper()
	names := len(j.names)
	switch n.Kind {
	case api.EBlock:
		j.kids(n.Kids, given.Kids)
		j.block(n)
	case api.EMatch:
		j.kids(n.Kids[:1], given.Kids[:1])
		matched := n.Kids[0].Type
		if matched.Kind == api.TyNever {
			matched = tEmpty
		}
		var expressions []api.Node
		for i, arm := range n.Kids[1:] {
			from := given.Kids[1+i]
			j.must(arm.Kind == api.Arm && arm.At == from.At && reflect.DeepEqual(arm.Type, api.Type{}), arm, "another arm")
			j.pattern(arm.Kids[0], from.Kids[0], matched)
			j.expression(arm.Kids[1], from.Kids[1])
			j.names = j.names[:names]
			expressions = append(expressions, arm.Kids[1])
		}
		j.oneOf(n, expressions)
	case api.EWhile, api.ELoop:
		last := len(n.Kids) - 1
		j.kids(n.Kids[:last], given.Kids[:last])
		j.loops = append(j.loops, false)
		j.kids(n.Kids[last:], given.Kids[last:])
		j.gives(n.Kids[last], tEmpty)
		left := j.loops[len(j.loops)-1] || n.Kind == api.EWhile
		j.loops = j.loops[:len(j.loops)-1]
		j.must((n.Type.Kind == api.TyNever) == !left && (!left || scope.Same(n.Type, tEmpty)), n, "left: %v", left)
	}
	j.names = j.names[:names]
}

func (j *judge) block(n api.Node) {
	ahead, last := n.Kids, tEmpty
	if n.N == 1 {
		ahead, last = n.Kids[:len(n.Kids)-1], n.Kids[len(n.Kids)-1].Type
	}
	for _, statement := range ahead {
		if statement.Kind == api.ELet && len(statement.Kids) > 0 {
			statement = statement.Kids[0]
		}
		if statement.Type.Kind == api.TyNever {
			last = tNever
		}
	}
	j.is(n, last)
}

// other looks at nodes that become others.
func (j *judge) other(n, given api.Node) {
	j.t.Helper()
	switch n.Kind {
	case api.EVar, api.ECap:
		known := j.names[len(j.names)-1-slices.IndexFunc(reversed(j.names), func(one judged) bool { return one.name == given.Name })]
		j.must(n.Kind == known.kind && n.N == known.n && n.M == 0 && n.Name == given.Name && len(n.Kids) == 0, n, "not what the name says")
		if n.Kind == api.EVar {
			j.is(n, j.fn.Vars[n.N].Type)
		} else {
			j.is(n, j.fn.Env[n.N])
		}
	case api.EField:
		j.kids(n.Kids, given.Kids)
		j.field(n, given)
	case api.EInvoke:
		j.kids(n.Kids, given.Kids)
		f := n.Kids[0].Type
		j.must(f.Kind == api.TyFn && f.N == n.N && n.M == 0 && n.Name == "" && len(f.Args) == len(n.Kids), n, "not so called")
		for i, kid := range n.Kids[1:] {
			j.gives(kid, f.Args[i])
		}
		j.is(n, f.Args[len(f.Args)-1])
	case api.ELet:
		j.let(n, given)
	case api.EClosure, api.ESpawn:
		j.closure(n, given)
	default:
		j.filled(n, given)
	}
}

func reversed(names []judged) []judged {
	out := slices.Clone(names)
	slices.Reverse(out)
	return out
}

func (j *judge) field(n, given api.Node) {
	from := n.Kids[0].Type
	j.must(n.Name == given.Name && n.M == 0, n, "another field")
	if n.Name == "" {
		j.must(from.Kind == api.TyTuple && n.N == given.N, n, "of no tuple")
		j.is(n, from.Args[n.N])
		return
	}
	data := j.given.Datas[from.N]
	part := data.Cases[0].Parts[n.N]
	j.must(from.Kind == api.TyData && !data.Enum && part.Name == n.Name && (part.Pub || data.Mod == j.fn.Mod), n, "of no struct")
	j.is(n, scope.Subst(part.Type, from.Args))
}

func (j *judge) let(n, given api.Node) {
	j.must(n.Name == given.Name && n.M == given.N/2 && len(n.Kids) == n.M, n, "another let")
	j.kids(n.Kids, given.Kids[given.N&1:])
	j.is(n, tEmpty)
	for _, value := range n.Kids {
		if value.Type.Kind != api.TyNever {
			j.must(reflect.DeepEqual(j.fn.Vars[n.N].Type, value.Type), n, "a variable of another type")
		} else if given.N == 2 {
			j.must(scope.Same(j.fn.Vars[n.N].Type, tEmpty), n, "a variable of another type than ()")
		}
	}
	j.variable(n, n.Name, given.M == 1)
}

// variable looks whether the next variable is that of a node.
func (j *judge) variable(n api.Node, name string, mut bool) {
	v := j.fn.Vars[n.N]
	j.must(n.N == j.vars && v.Name == name && v.Mut == mut && reflect.DeepEqual(v.Type, scope.Lifeless(v.Type)), n, "another variable: %s", tellVars([]api.Local{v}))
	j.vars++
	j.names = append(j.names, judged{name: name, kind: api.EVar, n: n.N})
}

// sigOf is the signature by which a node is filled.
func (j *judge) sigOf(n api.Node) api.Sig {
	switch n.Kind {
	case api.EFn:
		return j.given.Fns[n.N].Sig
	case api.ELib:
		return api.StdSig(n.N)
	case api.EMethod:
		sig := j.given.Traits[n.N].Methods[n.M].Sig
		return api.Sig{Gens: []api.Gen{{Traits: []int{n.N}}}, Ins: sig.Ins, Out: sig.Out}
	}
	data := j.given.Datas[n.N]
	sig := api.Sig{Out: api.Type{Kind: api.TyData, N: n.N, Lives: make([]int, data.Lives)}}
	for i := range data.Gens {
		sig.Gens = append(sig.Gens, api.Gen{})
		sig.Out.Args = append(sig.Out.Args, api.Type{Kind: api.TyParam, N: i})
	}
	for _, part := range data.Cases[n.M].Parts {
		sig.Ins = append(sig.Ins, part.Type)
	}
	return sig
}

// filled looks at a callee or an EMake.
func (j *judge) filled(n, given api.Node) {
	j.t.Helper()
	j.must(slices.Contains([]int{api.EFn, api.ELib, api.EMethod, api.ECase, api.EMake}, n.Kind) && n.Name == "", n, "no callee")
	sig := j.sigOf(n)
	values := n.Kids
	order := make([]int, 0, len(values))
	switch given.Kind {
	case api.EMake:
		values = nil
		for i, init := range n.Kids {
			from := given.Kids[given.M+i]
			j.must(init.Kind == api.EInit && init.At == from.At && init.M == 0 && init.Name == "" && reflect.DeepEqual(init.Type, api.Type{}), init, "another init")
			j.kids(init.Kids, from.Kids)
			values = append(values, init.Kids[0])
			order = append(order, init.N)
		}
	case api.ECall:
		j.kids(values, given.Kids[1:])
	}
	for i := len(order); i < len(values); i++ {
		order = append(order, i)
	}
	j.must(len(sig.Gens) == len(n.Args) && len(sig.Ins) == len(values), n, "another number of types or values")
	for i, value := range values {
		j.gives(value, scope.Subst(sig.Ins[order[i]], n.Args))
	}
	for i, gen := range sig.Gens {
		j.must(reflect.DeepEqual(n.Args[i], scope.Lifeless(n.Args[i])), n, "lifetimes")
		for _, trait := range gen.Traits {
			j.must(traits.Has(j.given, j.fn.Sig.Gens, trait, n.Args[i]), n, "not of the trait")
		}
	}
	j.is(n, scope.Subst(sig.Out, n.Args))
}

func (j *judge) closure(n, given api.Node) {
	j.t.Helper()
	var env []api.Type
	for i, capture := range n.Kids {
		from := given.Kids[i]
		kid := capture.Kids[0]
		j.must(capture.Kind == api.ECapture && capture.At == from.At && capture.N == from.N && capture.M == 0 && capture.Name == "" && len(capture.Kids) == 1, capture, "another capture")
		j.expression(kid, api.Node{Kind: api.EPath, At: from.At, Name: from.Name})
		t := kid.Type
		if from.N > 0 {
			t = api.Type{Kind: []int{api.TyRef, api.TyMut}[from.N-1], Lives: []int{0}, Args: []api.Type{t}}
		}
		j.is(capture, t)
		j.must(n.Kind == api.EClosure || traits.Has(j.given, j.fn.Sig.Gens, api.TrSend, t), capture, "not Send")
		env = append(env, t)
	}
	if n.N < len(j.given.Fns) || n.N >= len(j.made.Fns) {
		j.t.Fatalf("%q: %s: no such function", j.text, tell(n))
	}
	f := j.made.Fns[n.N]
	j.head(n, given, f, env)
	outer := *j
	j.body(f, given.Kids[len(given.Kids)-1], len(f.Sig.Ins))
	j.fn, j.vars, j.names, j.loops = outer.fn, outer.vars, outer.names, outer.loops
	j.must(n.N == len(j.given.Fns)+j.closures, n, "not the next function")
	j.closures++
}

// head looks at the function of a closure, but for its body.
func (j *judge) head(n, given api.Node, f api.FnDef, env []api.Type) {
	kind := given.N
	if n.Kind == api.ESpawn {
		kind = api.FnSpawn
	}
	params := given.Kids[given.M : len(given.Kids)-2]
	first := api.Type{Kind: api.TyTuple, Args: env}
	if kind == api.FnFn || kind == api.FnMut {
		first = api.Type{Kind: []int{api.TyRef, api.TyMut}[kind], Lives: []int{0}, Args: []api.Type{first}}
	}
	want := api.FnDef{Mod: j.fn.Mod, At: n.At, Impl: j.fn.Impl, Kind: kind, Types: j.fn.Types, Env: env, Body: f.Body, Vars: f.Vars}
	want.Sig = api.Sig{Lives: f.Sig.Lives, Ins: []api.Type{f.Vars[0].Type}, Out: f.Sig.Out, Gens: f.Sig.Gens}
	lives := allLives(f.Vars[0].Type)
	for i, life := range lives {
		j.must(life == i+1, n, "lifetimes %v", lives)
	}
	j.must(scope.Same(f.Vars[0].Type, first) && f.Vars[0].Mut && f.Vars[0].Name == "" && f.Sig.Lives == len(lives), n, "another first variable")
	for i, param := range params {
		v := f.Vars[1+i]
		j.must(v.Name == param.Name && v.Mut == (param.M == 1), n, "parameter %d", i)
		want.Sig.Ins = append(want.Sig.Ins, v.Type)
	}
	j.must(reflect.DeepEqual(f, want), n, "function %s", tellFn(f))
	j.must(len(f.Sig.Gens) == len(j.fn.Sig.Gens), n, "another number of type parameters")
	for i, gen := range j.fn.Sig.Gens {
		j.must(slices.Equal(f.Sig.Gens[i].Traits, gen.Traits) && slices.Equal(f.Sig.Gens[i].Lives, statics(gen.Lives)), n, "type parameter %d", i)
	}
	j.must(n.M == kind && n.Name == "", n, "another closure")
	args := append(slices.Clone(want.Sig.Ins[1:]), f.Sig.Out)
	if kind == api.FnSpawn {
		j.must(traits.Has(j.given, j.fn.Sig.Gens, api.TrSend, f.Sig.Out), n, "not Send")
		j.is(n, api.Type{Kind: api.TyLib, N: api.LyHandle, Args: args})
		return
	}
	j.is(n, api.Type{Kind: api.TyFn, N: kind, Lives: []int{0}, Args: args})
}

func allLives(t api.Type) []int {
	lives := slices.Clone(t.Lives)
	for _, arg := range t.Args {
		lives = append(lives, allLives(arg)...)
	}
	return lives
}

func statics(lives []int) []int {
	var out []int
	for _, life := range lives {
		if life == -1 {
			out = append(out, life)
		}
	}
	return out
}

// pattern looks at a pattern of a type.
func (j *judge) pattern(n, given api.Node, t api.Type) {
	j.t.Helper()
	j.must(n.Kind == given.Kind && n.At == given.At && n.Name == given.Name && len(n.Args) == 0, n, "another pattern")
	j.is(n, t)
	var parts []api.Type
	switch n.Kind {
	case api.PInt, api.PBool:
		j.must(n.N == given.N && n.M == 0 && t.Kind == []int{api.TyInt, api.TyBool}[n.Kind-api.PInt], n, "of another type")
	case api.PTuple:
		parts = t.Args
	case api.PBind:
		j.must(n.M == given.N, n, "bound otherwise")
		of := t
		if n.M > 0 {
			of = api.Type{Kind: []int{api.TyRef, api.TyMut}[n.M-1], Lives: []int{0}, Args: []api.Type{t}}
		}
		j.must(reflect.DeepEqual(j.fn.Vars[n.N].Type, of), n, "a variable of another type")
		j.variable(n, n.Name, given.M == 1)
	case api.PCase:
		variant := j.given.Datas[n.N].Cases[n.M]
		j.must(t.Kind == api.TyData && t.N == n.N && strings.HasSuffix(n.Name, "::"+variant.Name), n, "another variant")
		for _, part := range variant.Parts {
			parts = append(parts, scope.Lifeless(scope.Subst(part.Type, t.Args)))
		}
	}
	if len(n.Kids) != len(parts) || len(n.Kids) != len(given.Kids) {
		j.t.Fatalf("%q: %s: another number of parts", j.text, tell(n))
	}
	for i, kid := range n.Kids {
		j.pattern(kid, given.Kids[i], parts[i])
	}
}
