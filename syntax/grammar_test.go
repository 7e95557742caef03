package syntax

import (
	"slices"
	"strings"

	"holdfast/api"
	"holdfast/lexer"
)

// grammarText is the grammar of chapter 2 once more, as rules: a name, then what it may be made of. What has no rule is a token. The lines E2 to E8 of expressions are there a second time, as S2 to S8, for statements: without the things that are statements alone at their beginning.
const grammarText = `
Start Text END
Text
Text Text Module
Module mod NAME { Uses Items }
Uses
Uses Uses use NAME :: NAME ;
Items
Items Items Item
Item impl BoundGens Path2 for Type { Methods }
Item Pub Copy struct NAME Gens { Fields }
Item Pub Copy enum NAME Gens { Variants }
Item Pub trait NAME { Heads }
Item Pub fn NAME BoundGens Params Result Block
Pub
Pub pub
Copy
Copy copy
Fields
Fields Fields1
Fields Fields1 ,
Fields1 Field
Fields1 Fields1 , Field
Field Pub NAME : Type
Variants
Variants Variants1
Variants Variants1 ,
Variants1 Variant
Variants1 Variants1 , Variant
Variant NAME
Variant NAME ( Types )
Heads
Heads Heads Head ;
Methods
Methods Methods Head Block
Head fn NAME Params Result
Result
Result -> Type
Params ( )
Params ( Params1 )
Params1 Param
Params1 Params1 , Param
Param Mut NAME : Type
Mut
Mut mut
Gens
Gens < Lifes >
Gens < Names >
Gens < Lifes , Names >
Lifes LIFE
Lifes Lifes , LIFE
Names NAME
Names Names , NAME
BoundGens
BoundGens < BoundLifes >
BoundGens < BoundNames >
BoundGens < BoundLifes , BoundNames >
BoundLifes BoundLife
BoundLifes BoundLifes , BoundLife
BoundLife LIFE
BoundLife LIFE : SumLifes
SumLifes LIFE
SumLifes SumLifes + LIFE
BoundNames BoundName
BoundNames BoundNames , BoundName
BoundName NAME
BoundName NAME : Bounds
Bounds Bound
Bounds Bounds + Bound
Bound LIFE
Bound Path2
Path2 NAME
Path2 NAME :: NAME
Path3 Path2
Path3 NAME :: NAME :: NAME
Type int
Type bool
Type ( )
Type ( Types )
Type & Life Mut Type
Type && Life Mut Type
Type fn Life Kind ( ) -> Type
Type fn Life Kind ( Types ) -> Type
Type Path2
Type Path2 < Lifes >
Type Path2 < Types >
Type Path2 < Lifes , Types >
Types Type
Types Types , Type
Life
Life LIFE
Kind
Kind mut
Kind once
E1 E2
E1 E2 = E1
E2 E3
E2 E2 || E3
E3 E4
E3 E3 && E4
E4 E5
E4 E5 == E5
E4 E5 != E5
E4 E5 <= E5
E4 E5 >= E5
E4 E5 < E5
E4 E5 > E5
E5 E6
E5 E5 + E6
E5 E5 - E6
E6 E7
E6 E6 * E7
E6 E6 / E7
E6 E6 % E7
E7 E8
E7 - E7
E7 ! E7
E7 * E7
E7 & Mut E7
E7 && Mut E7
E8 E9
E8 E8 ( )
E8 E8 ( Es )
E8 E8 . INT
E8 E8 . NAME
E9 Alone
E9 Other
Es E1
Es Es , E1
Alone If
Alone match E1 { Arms }
Alone while E1 Block
Alone loop Block
Alone Block
If if E1 Block
If if E1 Block else Block
If if E1 Block else If
Other INT
Other true
Other false
Other Path3 Given
Other ( )
Other ( Es )
Other break
Other next
Other panic
Other BareReturn
Other return E1
Other make Path2 Given { Inits }
Other fn Kind Captures Params Result Block
Other spawn Captures Result Block
BareReturn return
Given
Given :: < Types >
Arms
Arms Arms1
Arms Arms1 ,
Arms1 Arm
Arms1 Arms1 , Arm
Arm Pattern => E1
Inits
Inits Inits1
Inits Inits1 ,
Inits1 Init
Inits1 Inits1 , Init
Init NAME : E1
Captures [ ]
Captures [ Captures1 ]
Captures1 Capture
Captures1 Captures1 , Capture
Capture NAME
Capture & Mut NAME
Block { Statements }
Block { Statements S1 }
Statements
Statements Statements let Mut NAME Typed Valued ;
Statements Statements Alone
Statements Statements Alone ;
Statements Statements S1 ;
Typed
Typed : Type
Valued
Valued = E1
Pattern _
Pattern INT
Pattern - INT
Pattern true
Pattern false
Pattern ( )
Pattern ( Patterns )
Pattern ref Mut NAME
Pattern mut NAME
Pattern NAME
Pattern NAME :: NAME Within
Pattern NAME :: NAME :: NAME Within
Patterns Pattern
Patterns Patterns , Pattern
Within
Within ( Patterns )
`

type rule struct {
	head string
	body []string
}

// grammar finds out which tokens can stand by the rules alone, without reading a tree.
type grammar struct {
	rules []rule
	heads map[string][]int
	empty map[string]bool // what may be made of nothing
}

func newGrammar() *grammar {
	g := &grammar{heads: map[string][]int{}, empty: map[string]bool{}}
	for line := range strings.Lines(grammarText) {
		words := strings.Fields(line)
		if len(words) == 0 {
			continue
		}
		g.add(words[0], words[1:])
		if head := words[0]; head[0] == 'E' && len(head) == 2 && head != "E9" {
			g.add("S"+head[1:], atStatement(words[1:]))
		}
	}
	g.add("S9", []string{"Other"})
	for i, r := range g.rules {
		g.heads[r.head] = append(g.heads[r.head], i)
		if len(r.body) == 0 {
			g.empty[r.head] = true
		}
	}
	return g
}

func (g *grammar) add(head string, body []string) {
	g.rules = append(g.rules, rule{head, body})
}

// atStatement is a rule's body where its first expression begins a statement.
func atStatement(body []string) []string {
	body = slices.Clone(body)
	if first := body[0]; len(first) == 2 && first[0] == 'E' {
		body[0] = "S" + first[1:]
	}
	return body
}

// state is a rule that has been gone through up to a symbol, from a token on.
type state struct {
	rule, dot, from int
}

// first answers which token is the first one that cannot stand by the rules, or -1.
func (g *grammar) first(symbols []string) int {
	sets := make([][]state, len(symbols)+1)
	for _, r := range g.heads["Start"] {
		sets[0] = append(sets[0], state{rule: r})
	}
	for i := range symbols {
		g.fill(sets, i, symbols[i])
		for _, s := range sets[i] {
			if body := g.rules[s.rule].body; s.dot < len(body) && body[s.dot] == symbols[i] {
				sets[i+1] = append(sets[i+1], state{s.rule, s.dot + 1, s.from})
			}
		}
		if len(sets[i+1]) == 0 {
			return i
		}
	}
	return -1
}

// fill adds to a set what its states lead to, the next token being known.
func (g *grammar) fill(sets [][]state, i int, next string) {
	seen := map[state]bool{}
	add := func(s state) {
		if !seen[s] {
			seen[s] = true
			sets[i] = append(sets[i], s)
		}
	}
	begun := sets[i]
	sets[i] = nil
	for _, s := range begun {
		add(s)
	}
	for k := 0; k < len(sets[i]); k++ {
		s := sets[i][k]
		r := g.rules[s.rule]
		if s.dot == len(r.body) {
			g.complete(sets[s.from], r.head, next, add)
			continue
		}
		for _, n := range g.heads[r.body[s.dot]] {
			add(state{n, 0, i})
		}
		if g.empty[r.body[s.dot]] {
			add(state{s.rule, s.dot + 1, s.from})
		}
	}
}

// complete goes on in the states that have waited for a head.
func (g *grammar) complete(waiting []state, head, next string, add func(state)) {
	if head == "BareReturn" && !strings.Contains(" ; } ) , ] ", " "+next+" ") {
		return
	}
	for _, s := range slices.Clone(waiting) {
		if body := g.rules[s.rule].body; s.dot < len(body) && body[s.dot] == head {
			add(state{s.rule, s.dot + 1, s.from})
		}
	}
}

// fault is what the grammar says of a text that has tokens: OK or ErrSyntax.
func (g *grammar) fault(text string) api.Fault {
	tokens, _ := lexer.Tokens(text)
	symbols := make([]string, len(tokens))
	for i, token := range tokens {
		symbols[i] = symbol(token)
	}
	at := g.first(symbols)
	if at < 0 {
		return api.Fault{}
	}
	// These two cannot stand themselves if what stands behind them is wrong.
	if at > 0 && symbols[at-1] == "copy" || at > 0 && symbols[at-1] == "::" && (at < 3 || symbols[at-3] != "use") {
		at--
	}
	return api.Fault{Kind: api.ErrSyntax, At: tokens[at].At}
}

func symbol(token api.Token) string {
	switch token.Kind {
	case api.TokEnd:
		return "END"
	case api.TokInt:
		return "INT"
	case api.TokName:
		return "NAME"
	case api.TokLife:
		return "LIFE"
	}
	return token.Text
}
