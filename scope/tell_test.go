package scope

import (
	"fmt"
	"regexp"
	"strings"
	"testing"

	"holdfast/api"
	"holdfast/syntax"
)

// mainMod is a module that makes a program of the modules ahead of it.
const mainMod = " mod main { fn main(n: int) -> int { n } }"

// tree is the tree of a text that is one.
func tree(t *testing.T, text string) api.Node {
	t.Helper()
	n, fault := syntax.Parse(text)
	if fault.Kind != api.OK {
		t.Fatalf("%q: no text: %v", text, fault)
	}
	return n
}

// program is the program of a text that has one.
func program(t *testing.T, text string) api.Program {
	t.Helper()
	p, fault := Items(tree(t, text))
	if fault != (api.Fault{}) {
		t.Fatalf("%q: %v", text, fault)
	}
	return p
}

// tellType writes a type in short: lifetimes by their numbers, T and D for type parameters and data types, std's by their names.
func tellType(t api.Type) string {
	var args []string
	for _, arg := range t.Args {
		args = append(args, tellType(arg))
	}
	all := strings.Join(args, ", ")
	switch t.Kind {
	case api.TyInt, api.TyBool:
		return []string{"int", "bool"}[t.Kind-api.TyInt] + rest(t.N, len(t.Lives), len(t.Args))
	case api.TyTuple:
		return "(" + all + ")" + rest(t.N, len(t.Lives))
	case api.TyParam:
		return fmt.Sprint("T", t.N) + rest(len(t.Lives), len(t.Args))
	case api.TyData:
		return fmt.Sprint("D", t.N) + tellLives(t.Lives) + "<" + all + ">"
	case api.TyLib:
		return api.StdType(t.N) + tellLives(t.Lives) + "<" + all + ">"
	case api.TyRef:
		return "&" + tellLives(t.Lives) + " " + all + rest(t.N, len(t.Args)-1)
	case api.TyMut:
		return "&mut" + tellLives(t.Lives) + " " + all + rest(t.N, len(t.Args)-1)
	case api.TyFn:
		last := len(args) - 1
		return fmt.Sprint("fn", t.N) + tellLives(t.Lives) + "(" + strings.Join(args[:last], ", ") + ")->" + args[last]
	}
	return fmt.Sprintf("?%+v", t)
}

func tellLives(lives []int) string {
	out := ""
	for _, life := range lives {
		out += fmt.Sprint("'", life)
	}
	return out
}

// rest tells numbers that ought to be 0.
func rest(numbers ...int) string {
	for _, n := range numbers {
		if n != 0 {
			return fmt.Sprint("!", numbers)
		}
	}
	return ""
}

func tellTypes(types []api.Type) string {
	var out []string
	for _, t := range types {
		out = append(out, tellType(t))
	}
	return strings.Join(out, ", ")
}

func tellSig(s api.Sig) string {
	return fmt.Sprintf("%d %v %v (%s)->%s", s.Lives, s.Outs, s.Gens, tellTypes(s.Ins), tellType(s.Out))
}

func pub(is bool) string {
	if is {
		return "pub "
	}
	return ""
}

func tellModule(m api.Module) string {
	var names []string
	for _, n := range m.Names {
		sort := []string{"data", "type", "trait", "fn", "lib"}[n.Sort]
		names = append(names, fmt.Sprint(pub(n.Pub), n.Name, " ", sort, n.N))
	}
	own := strings.Join(names[:m.Own], ", ")
	return m.Name + ": " + own + "; " + strings.Join(names[m.Own:], ", ")
}

func tellData(d api.DataDef) string {
	var cases []string
	for _, c := range d.Cases {
		var parts []string
		for _, p := range c.Parts {
			parts = append(parts, fmt.Sprint(pub(p.Pub), p.Name, ":", tellType(p.Type)))
		}
		cases = append(cases, c.Name+"("+strings.Join(parts, ", ")+")")
	}
	return fmt.Sprintf("%s%s mod%d @%d copy %v enum %v lives %d gens %d drop %d: %s", pub(d.Pub), d.Name, d.Mod, d.At, d.Copy, d.Enum, d.Lives, d.Gens, d.Drop, strings.Join(cases, " "))
}

func tellTrait(tr api.TraitDef) string {
	var methods []string
	for _, m := range tr.Methods {
		methods = append(methods, m.Name+" "+tellSig(m.Sig))
	}
	return fmt.Sprintf("%s%s mod%d @%d: %s", pub(tr.Pub), tr.Name, tr.Mod, tr.At, strings.Join(methods, "; "))
}

func tellImpl(i api.ImplDef) string {
	return fmt.Sprintf("trait%d mod%d @%d lives %d gens %v self %s fns %v", i.Trait, i.Mod, i.At, i.Lives, i.Gens, tellType(i.Self), i.Fns)
}

func tellFn(f api.FnDef) string {
	var vars []string
	for _, v := range f.Vars {
		mut := ""
		if v.Mut {
			mut = "mut "
		}
		vars = append(vars, fmt.Sprint(mut, v.Name, ":", tellType(v.Type)))
	}
	return fmt.Sprintf("%s%s mod%d @%d impl %d kind %d types %v sig %s vars (%s)", pub(f.Pub), f.Name, f.Mod, f.At, f.Impl, f.Kind, f.Types, tellSig(f.Sig), strings.Join(vars, ", "))
}

// tellAll writes things, a line each.
func tellAll[T any](things []T, tell func(T) string) string {
	out := ""
	for _, thing := range things {
		out += tell(thing) + "\n"
	}
	return out
}

// placeOf is how a line tells a place by what stands there.
var placeOf = regexp.MustCompile("@`([^`]*)`")

// same holds what is told against what must be, line by line. A place is written there as the first one at which a piece of the text stands.
func same(t *testing.T, text, got string, want ...string) {
	t.Helper()
	all := placeOf.ReplaceAllStringFunc(strings.Join(want, "\n"), func(place string) string {
		return fmt.Sprint("@", strings.Index(text, strings.Trim(place, "@`")))
	})
	if strings.TrimSpace(got) != strings.TrimSpace(all) {
		t.Errorf("%q:\n%s\nnot\n%s", text, got, all)
	}
}
