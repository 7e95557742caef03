// Package syntax: trees of texts, texts of trees (chapter 2).
package syntax

import (
	"strings"

	"holdfast/api"
	"holdfast/lexer"
)

// Parse answers the tree of a text, or the first fault.
func Parse(text string) (tree api.Node, fault api.Fault) {
	tokens, wrong := lexer.Tokens(text)
	if wrong.Kind != api.OK {
		return api.Node{}, wrong
	}
	defer func() {
		switch thrown := recover().(type) {
		case nil:
		case misplaced:
			tree, fault = api.Node{}, api.Fault{Kind: api.ErrSyntax, At: thrown.at}
		default: // nothing else is thrown; but whatever it were, a text that could not be read is refused
			tree, fault = api.Node{}, api.Fault{Kind: api.ErrSyntax}
		}
	}()
	tree = newParser(tokens).program()
	if at, deep := tooDeep(tree, 1); deep {
		return api.Node{}, api.Fault{Kind: api.ErrDeep, At: at}
	}
	return tree, api.Fault{}
}

// Print writes a tree again.
func Print(n api.Node) (text string) {
	// A tree that no text has may lack what is looked for in it: of that nothing is told, but the call answers.
	defer func() {
		if recover() != nil {
			text = ""
		}
	}()
	w := &writer{}
	w.node(n)
	return strings.Join(w.pieces, " ")
}

// tooDeep answers the place of the first node that stands more than MaxDepth deep, if there is one.
func tooDeep(n api.Node, depth int) (int, bool) {
	if depth > api.MaxDepth {
		return n.At, true
	}
	for _, kid := range n.Kids {
		if at, deep := tooDeep(kid, depth+1); deep {
			return at, true
		}
	}
	return 0, false
}
