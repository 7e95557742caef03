package lower

import (
	"fmt"
	"strings"

	"holdfast/api"
	"holdfast/traits"
)

// cell is where a value stands. Values are ints, bools, and what follows; nil is none.
type cell struct {
	v any
}

// many is a value of parts: of a tuple, a struct, a variant.
type many struct {
	tag   int
	parts []*cell
}

// leads is a reference or a Box.
type leads struct {
	to *cell
}

// shut is a closure: its function and what it has captured.
type shut struct {
	fn  int
	env *cell
}

// ended is what a thread has given, or that it has panicked.
type ended struct {
	v  any
	ok bool
}

// fresh is a value whose parts stand in cells of their own.
func fresh(v any) any {
	old, ok := v.(many)
	if !ok {
		return v
	}
	made := many{tag: old.tag}
	for _, part := range old.parts {
		made.parts = append(made.parts, &cell{fresh(part.v)})
	}
	return made
}

func manyOf(tag int, values ...any) many {
	made := many{tag: tag}
	for _, v := range values {
		made.parts = append(made.parts, &cell{v})
	}
	return made
}

func show(v any) string {
	switch v := v.(type) {
	case many:
		var parts []string
		for _, part := range v.parts {
			parts = append(parts, show(part.v))
		}
		return fmt.Sprint(v.tag, "(", strings.Join(parts, ", "), ")")
	case leads:
		return "&" + show(v.to.v)
	case shut:
		return fmt.Sprint("fn", v.fn, show(v.env.v))
	case ended:
		return fmt.Sprint("thread ", v.ok)
	}
	return fmt.Sprint(v)
}

// stop is thrown where a program panics, or does what no made program does.
type stop struct {
	why string
}

// reckon is what an operator gives.
func reckon(op int, a, b any) any {
	switch op {
	case api.OEq:
		return a == b
	case api.ONe:
		return a != b
	case api.ONot:
		return !a.(bool)
	case api.ONeg:
		return -a.(int)
	}
	x, y := a.(int), b.(int)
	switch op {
	case api.OAdd:
		return x + y
	case api.OSub:
		return x - y
	case api.OMul:
		return x * y
	case api.ODiv, api.ORem:
		if y == 0 {
			panic(stop{"panic"})
		}
		if op == api.ODiv {
			return x / y
		}
		return x % y
	case api.OLt:
		return x < y
	case api.OLe:
		return x <= y
	case api.OGt:
		return x > y
	}
	return x >= y
}

// world is what a run has told, and what its functions share.
type world struct {
	p    api.Program
	told []string
}

// lib is what one of std's functions gives.
func (w *world) lib(n int, args []any) any {
	switch n {
	case api.LBoxed:
		return leads{&cell{args[0]}}
	case api.LUnbox:
		return args[0].(leads).to.v
	case api.LOut:
		w.told = append(w.told, show(args[0]))
		return many{}
	case api.LReplace:
		to := args[0].(leads).to
		was := to.v
		to.v = args[1]
		return was
	case api.LJoin:
		if thread := args[0].(ended); thread.ok {
			return manyOf(1, thread.v)
		}
		return many{}
	}
	panic(stop{"std's " + api.StdFn(n)})
}

// method is the function of a method.
func (w *world) method(trait, m int, self api.Type) int {
	impl, _, _ := traits.Find(w.p, nil, trait, self)
	return w.p.Impls[impl].Fns[m]
}

// end tells that a variable ends, if it has a value.
func (w *world) end(name string, c *cell) {
	if name != "" && c.v != nil {
		w.told = append(w.told, name+" was "+show(c.v))
	}
}
