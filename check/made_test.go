package check

import (
	"math/rand"
	"reflect"
	"slices"
	"testing"

	"holdfast/api"
	"holdfast/lexer"
	"holdfast/scope"
	"holdfast/syntax"
)

// unplaced is a program without its places.
func unplaced(p api.Program) api.Program {
	for i := range p.Datas {
		p.Datas[i].At = 0
	}
	for i := range p.Traits {
		p.Traits[i].At = 0
	}
	for i := range p.Impls {
		p.Impls[i].At = 0
	}
	for i := range p.Fns {
		p.Fns[i].At = 0
		unplacedNode(&p.Fns[i].Body)
	}
	return p
}

func unplacedNode(n *api.Node) {
	n.At = 0
	for i := range n.Kids {
		unplacedNode(&n.Kids[i])
	}
}

// expressions are the nodes of a tree in whose place any expression may stand.
func expressions(n *api.Node) []*api.Node {
	var out []*api.Node
	switch {
	case n.Kind == api.Arm, n.Kind == api.EInit, n.Kind == api.ECapture:
	case n.Kind >= api.EInt && n.Kind <= api.ESpawn:
		out = append(out, n)
	}
	for i := range n.Kids {
		out = append(out, expressions(&n.Kids[i])...)
	}
	return out
}

// P17: made bodies are typed as the chapter says, and so are they when they are printed; in a body that is typed, a name that is not there is found wherever it stands.
func TestMadeBodies(t *testing.T) {
	kinds := map[api.Errno]int{}
	closures := 0
	for seed := range int64(2000) {
		r := rand.New(rand.NewSource(seed))
		m := &maker{Rand: r, left: 5 + int(seed%60)}
		text := m.text()
		if len(text) > api.MaxText {
			continue
		}
		n, fault := syntax.Parse(text)
		if fault.Kind == api.ErrDeep {
			continue
		}
		given := items(t, text)
		p, fault := Check(given)
		kinds[fault.Kind]++
		if fault.Kind != api.OK {
			tokens, _ := lexer.Tokens(text)
			if !slices.ContainsFunc(tokens, func(token api.Token) bool { return token.At == fault.At }) {
				t.Errorf("%q: %v is at no token", text, fault)
			}
			continue
		}
		closures += len(p.Fns) - len(given.Fns)
		hold(t, text, given, p)
		holdNames(t, r, text)
		holdPrinted(t, n, p)
	}
	// Without these there would be nothing to see.
	if kinds[api.OK] < 900 || closures < 300 || kinds[api.ErrTwice] < 5 || kinds[api.ErrType] < 20 || kinds[api.ErrGuess] < 20 || kinds[api.ErrSend] < 5 {
		t.Error(kinds, closures)
	}
}

// holdNames puts a name that is not there in the place of some expressions.
func holdNames(t *testing.T, r *rand.Rand, text string) {
	t.Helper()
	given := items(t, text)
	var places []*api.Node
	for fn := range given.Fns {
		places = append(places, expressions(&given.Fns[fn].Body)...)
	}
	for range 5 {
		place := places[r.Intn(len(places))]
		was := *place
		*place = api.Node{Kind: api.EPath, At: was.At, Name: "nowhere"}
		if p, fault := Check(given); fault != (api.Fault{Kind: api.ErrName, At: was.At}) || !reflect.DeepEqual(p, api.Program{}) {
			t.Errorf("%q: %v, with a name that is not there at %d", text, fault, was.At)
		}
		*place = was
	}
}

// holdPrinted looks at the same text, printed.
func holdPrinted(t *testing.T, n api.Node, p api.Program) {
	t.Helper()
	text := syntax.Print(n)
	again, fault := syntax.Parse(text)
	if fault.Kind == api.ErrLong {
		return
	}
	given, _ := scope.Items(again)
	other, fault := Check(given)
	if fault.Kind != api.OK || !reflect.DeepEqual(unplaced(other), unplaced(p)) {
		t.Errorf("%q: printed it is another program: %v", text, fault)
	}
}
