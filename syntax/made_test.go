package syntax

import (
	"reflect"
	"slices"
	"strings"
	"testing"

	"holdfast/api"
	"holdfast/lexer"
)

const madeTexts = 3000

// deepest is how deep the deepest node of a tree stands.
func deepest(n api.Node) int {
	deep := 0
	for _, kid := range n.Kids {
		deep = max(deep, deepest(kid))
	}
	return deep + 1
}

// withoutPlaces is a tree whose nodes all stand at 0.
func withoutPlaces(n api.Node) api.Node {
	n.At = 0
	kids := n.Kids
	n.Kids = nil
	for _, kid := range kids {
		n.Kids = append(n.Kids, withoutPlaces(kid))
	}
	return n
}

// sameTree says whether two trees are the same. Lists with nothing in them may be nil or empty.
func sameTree(a, b api.Node) bool {
	if len(a.Kids) != len(b.Kids) {
		return false
	}
	for i := range a.Kids {
		if !sameTree(a.Kids[i], b.Kids[i]) {
			return false
		}
	}
	a.Kids, b.Kids = nil, nil
	return reflect.DeepEqual(a, b)
}

// P6: texts made up by the grammar have the trees, with places, that the grammar tells. P7, P8: Print's text of each is read again as the same tree, places aside.
func TestMadeTexts(t *testing.T) {
	read, again := 0, 0
	for seed := range madeTexts {
		text, want := makeText(seed)
		if len(text) > api.MaxText {
			continue
		}
		got, fault := Parse(text)
		if deepest(want) > api.MaxDepth {
			if fault.Kind != api.ErrDeep {
				t.Errorf("seed %d: %v", seed, fault)
			}
			continue
		}
		read++
		if fault != (api.Fault{}) || !sameTree(got, want) {
			t.Fatalf("seed %d: %v\n%s\n%v\n%v", seed, fault, text, got, want)
		}
		printed := Print(got)
		if len(printed) > api.MaxText {
			continue
		}
		again++
		readAgain, fault := Parse(printed)
		if fault != (api.Fault{}) || !sameTree(withoutPlaces(readAgain), withoutPlaces(got)) || Print(readAgain) != printed {
			t.Fatalf("seed %d: %v\n%s\n%s", seed, fault, text, printed)
		}
		if joined := joinTokens(t, printed); joined != printed {
			t.Errorf("seed %d: more than one space between tokens:\n%s\n%s", seed, printed, joined)
		}
	}
	if read < madeTexts/2 || again < madeTexts/2 {
		t.Errorf("only %d of %d texts were read, %d again", read, madeTexts, again)
	}
}

// joinTokens writes the tokens of a text with one space between.
func joinTokens(t *testing.T, text string) string {
	tokens, fault := lexer.Tokens(text)
	if fault != (api.Fault{}) {
		t.Fatal(fault)
	}
	var pieces []string
	for i, token := range tokens[:len(tokens)-1] {
		pieces = append(pieces, strings.TrimRight(text[token.At:tokens[i+1].At], " "))
	}
	return strings.Join(pieces, " ")
}

// someTokens is what is put into texts to spoil them.
const someTokens = "a 1 'a mod use pub copy struct enum trait impl for fn let mut if else match while loop break next return panic make ref once spawn true false int bool :: -> => == != <= >= && || ( ) { } [ ] < > , ; : . = + - * / % & ! _"

// P6: of texts that are spoilt at one or two tokens, the first token that cannot stand is told: the one that the rules of the grammar, gone through without a parser, tell too.
func TestSpoiltTexts(t *testing.T) {
	rules := newGrammar()
	others := strings.Fields(someTokens)
	faults := 0
	for seed := range madeTexts {
		m := &maker{state: uint64(seed)*2 + 1, left: seed % 40}
		m.program()
		if len(m.tokens) > 150 {
			continue
		}
		for range 8 {
			tokens := slices.Clone(m.tokens)
			for range 1 + m.pick(2) {
				tokens = m.spoil(tokens, others)
			}
			text := strings.Join(tokens, " ")
			_, got := Parse(text)
			if want := rules.fault(text); got != want && got.Kind != api.ErrDeep {
				t.Fatalf("%s\n%v, not %v, at %q", text, got, want, text[want.At:])
			}
			if got.Kind == api.ErrSyntax {
				faults++
			}
		}
	}
	if faults < madeTexts {
		t.Errorf("only %d faults", faults)
	}
}

// spoil leaves out a token or all from one on, puts one in, or puts one in the place of another.
func (m *maker) spoil(tokens, others []string) []string {
	other := others[m.pick(len(others))]
	if len(tokens) == 0 {
		return []string{other}
	}
	at := m.pick(len(tokens))
	switch m.pick(4) {
	case 0:
		return slices.Delete(tokens, at, at+1)
	case 1:
		return slices.Insert(tokens, at, other)
	case 2:
		return tokens[:at]
	}
	tokens[at] = other
	return tokens
}
