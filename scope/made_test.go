package scope

import (
	"reflect"
	"slices"
	"testing"

	"holdfast/api"
	"holdfast/lexer"
	"holdfast/syntax"
)

// bald is a program without its places and blocks.
func bald(p api.Program) api.Program {
	for i := range p.Datas {
		p.Datas[i].At = 0
	}
	for i := range p.Traits {
		p.Traits[i].At = 0
	}
	for i := range p.Impls {
		p.Impls[i].At = 0
	}
	for i := range p.Fns {
		p.Fns[i].At, p.Fns[i].Body = 0, api.Node{}
	}
	return p
}

// wellMade says whether a type has as much in it as it must, and no lifetime or type parameter but those that there are.
func wellMade(p api.Program, t api.Type, lives, gens int) bool {
	l, n := 0, 0
	switch t.Kind {
	case api.TyInt, api.TyBool:
	case api.TyTuple:
		n = len(t.Args)
	case api.TyData:
		l, n = p.Datas[t.N].Lives, p.Datas[t.N].Gens
	case api.TyParam:
		if t.N >= gens {
			return false
		}
	case api.TyRef, api.TyMut:
		l, n = 1, 1
	case api.TyFn:
		l, n = 1, max(1, len(t.Args))
	case api.TyLib:
		n = 1
		if t.N >= api.LySlice {
			l = 1
		}
	default:
		return false
	}
	for _, life := range t.Lives {
		if life == 0 || life < -1 || life > lives {
			return false
		}
	}
	for _, arg := range t.Args {
		if !wellMade(p, arg, lives, gens) {
			return false
		}
	}
	return len(t.Lives) == l && len(t.Args) == n
}

func checkMade(t *testing.T, p api.Program, text string) {
	t.Helper()
	good := true
	for _, d := range p.Datas {
		for _, c := range d.Cases {
			for _, part := range c.Parts {
				good = good && wellMade(p, part.Type, d.Lives, d.Gens)
			}
		}
		good = good && (d.Drop < 0 || p.Impls[p.Fns[d.Drop].Impl].Trait == api.TrDrop)
	}
	for number, impl := range p.Impls {
		good = good && wellMade(p, impl.Self, impl.Lives, len(impl.Gens)) && len(impl.Fns) == len(p.Traits[impl.Trait].Methods)
		for _, f := range impl.Fns {
			good = good && p.Fns[f].Impl == number && reflect.DeepEqual(p.Fns[f].Sig.Gens, impl.Gens)
		}
	}
	for _, f := range p.Fns {
		for i, v := range f.Vars {
			good = good && reflect.DeepEqual(v.Type, f.Sig.Ins[i])
		}
		for _, ty := range append(slices.Clone(f.Sig.Ins), f.Sig.Out) {
			good = good && wellMade(p, ty, f.Sig.Lives, len(f.Sig.Gens))
		}
		good = good && len(f.Types) == len(f.Sig.Gens) && f.Body.Kind == api.EBlock
	}
	for i, m := range p.Mods {
		for _, n := range m.Names {
			got, behind, e := Find(p, i, n.Name)
			good = good && got == n && behind == "" && e == api.OK
		}
	}
	if !good {
		t.Errorf("%q: %+v", text, p)
	}
}

// P11: made texts have programs that hang together, and that the printed text has too; faults are at tokens, and the printed text has them too.
func TestMadeTexts(t *testing.T) {
	kinds := map[api.Errno]int{}
	for seed := range int64(6000) {
		text := newMaker(seed).text(1 + int(seed%8))
		n := tree(t, text)
		p, fault := Items(n)
		kinds[fault.Kind]++
		again, other := Items(tree(t, syntax.Print(n)))
		if fault.Kind != other.Kind {
			t.Errorf("%q: %v, printed %v", text, fault, other)
		}
		if fault.Kind == api.OK {
			checkMade(t, p, text)
			if !reflect.DeepEqual(bald(p), bald(again)) {
				t.Errorf("%q: printed it is another program", text)
			}
			continue
		}
		tokens, _ := lexer.Tokens(text)
		if !slices.ContainsFunc(tokens, func(token api.Token) bool { return token.At == fault.At }) {
			t.Errorf("%q: %v is at no token", text, fault)
		}
	}
	// Without these there would be nothing to see.
	for _, kind := range []api.Errno{api.OK, api.ErrTwice, api.ErrName, api.ErrPrivate, api.ErrSort, api.ErrCount, api.ErrLife, api.ErrSize, api.ErrImpl, api.ErrCopy} {
		if kinds[kind] < 20 {
			t.Errorf("kind %d has come %d times: %v", kind, kinds[kind], kinds)
		}
	}
	if kinds[api.ErrSyntax] > 0 {
		t.Error(kinds)
	}
}
