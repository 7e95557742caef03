package holdfast

import (
	"fmt"
	"math/rand"
	"slices"
	"strings"

	"holdfast/api"
	"holdfast/lexer"
)

// changer makes texts of other texts: it changes their tokens so that many of what comes out can still be read.
type changer struct {
	*rand.Rand
	words []string
}

// wordsOf are the tokens of a text.
func wordsOf(text string) []string {
	tokens, _ := lexer.Tokens(text)
	var out []string
	for k, token := range tokens {
		if token.Kind != api.TokEnd {
			out = append(out, strings.TrimRight(text[token.At:tokens[k+1].At], " \n\t"))
		}
	}
	return out
}

// changed is a text with some changes.
func changed(r *rand.Rand, text string, times int) string {
	c := &changer{r, wordsOf(text)}
	for range times {
		c.change()
	}
	return strings.Join(c.words, " ")
}

func (c *changer) change() {
	switch c.Intn(18) {
	case 0, 1, 2:
		c.otherName()
	case 3:
		c.takeOut()
	case 4, 5:
		c.copyElsewhere()
	case 6, 7:
		c.moveElsewhere()
	case 8, 9:
		c.sign()
	case 10:
		c.otherBrackets()
	case 11:
		c.around()
	case 12:
		c.otherLife()
	case 13:
		c.otherNumber()
	case 14:
		c.more()
	case 15:
		c.otherWord()
	default:
		c.lend()
	}
}

// lend lends something, and uses what it has lent further on.
func (c *changer) lend() {
	at := c.find(func(word string) bool { return word == ";" })
	if at < 0 {
		return
	}
	name, later := c.near(at, isName), c.near(at, func(word string) bool { return word == ";" })
	if name < 0 || later < 0 {
		return
	}
	place := []string{c.words[name]}
	if name+2 < len(c.words) && c.words[name+1] == "." {
		place = append(place, ".", c.words[name+2])
	}
	if c.Intn(4) == 0 {
		place = append([]string{"*"}, place...)
	}
	lent := append([]string{"let", "q", "=", "&"}, append([][]string{{}, {"mut"}}[c.Intn(2)], append(place, ";")...)...)
	uses := []string{"let z = q ;", "let z = & * q ;", "out ( * q ) ;", "* q = 4 ;"}
	c.words = slices.Insert(c.words, max(at, later)+1, strings.Fields(uses[c.Intn(len(uses))])...)
	c.words = slices.Insert(c.words, min(at, later)+1, lent...)
}

func isName(word string) bool {
	return word[0] >= 'a' && word[0] <= 'z' && !lexer.Word(word)
}

// find is the place of one of the tokens that are as they should be, or -1.
func (c *changer) find(ok func(string) bool) int {
	var all []int
	for k, word := range c.words {
		if ok(word) {
			all = append(all, k)
		}
	}
	if len(all) == 0 {
		return -1
	}
	return all[c.Intn(len(all))]
}

// near is like find, but not far from a place, which makes it likelier that a name is in sight there.
func (c *changer) near(at int, ok func(string) bool) int {
	for range 12 {
		k := at + c.Intn(161) - 80
		if k >= 0 && k < len(c.words) && ok(c.words[k]) {
			return k
		}
	}
	return -1
}

func (c *changer) otherName() {
	a := c.find(isName)
	if a < 0 {
		return
	}
	if b := c.near(a, isName); b >= 0 {
		c.words[a] = c.words[b]
	}
}

// statement is where a statement begins and where it ends, both -1 if none is found.
func (c *changer) statement() (int, int) {
	end := c.find(func(word string) bool { return word == ";" })
	if end < 0 {
		return -1, -1
	}
	depth := 0
	for k := end - 1; k >= 0; k-- {
		switch c.words[k] {
		case ")", "]", "}":
			// A block that ends ahead of a statement is none of its own, but where something stands behind it.
			if depth == 0 && c.words[k] == "}" && isName(c.words[k+1]) {
				return k + 1, end + 1
			}
			depth++
		case "(", "[", "{":
			depth--
		case ";":
			if depth == 0 {
				return k + 1, end + 1
			}
		}
		if depth < 0 {
			return k + 1, end + 1
		}
	}
	return -1, -1
}

func (c *changer) takeOut() {
	if from, to := c.statement(); from >= 0 {
		c.words = slices.Delete(c.words, from, to)
	}
}

func (c *changer) copyElsewhere() {
	from, to := c.statement()
	if from < 0 {
		return
	}
	part := slices.Clone(c.words[from:to])
	if at := c.near(from, func(word string) bool { return word == ";" || word == "{" }); at >= 0 {
		c.words = slices.Insert(c.words, at+1, part...)
	}
}

func (c *changer) moveElsewhere() {
	from, to := c.statement()
	if from < 0 {
		return
	}
	part := slices.Clone(c.words[from:to])
	c.words = slices.Delete(c.words, from, to)
	if at := c.near(from, func(word string) bool { return word == ";" || word == "{" }); at >= 0 {
		c.words = slices.Insert(c.words, at+1, part...)
	}
}

// sign puts a sign ahead of a name, or takes one away.
func (c *changer) sign() {
	if c.Intn(2) == 0 {
		if at := c.find(isName); at >= 0 {
			signs := [][]string{{"&"}, {"&", "mut"}, {"*"}, {"&", "*"}, {"&", "mut", "*"}, {"-"}, {"!"}}
			c.words = slices.Insert(c.words, at, signs[c.Intn(len(signs))]...)
		}
		return
	}
	if at := c.find(func(word string) bool { return word == "&" || word == "*" || word == "mut" || word == "ref" }); at >= 0 {
		c.words = slices.Delete(c.words, at, at+1)
	}
}

// closing is the place of the bracket that closes the one at a place, or -1.
func (c *changer) closing(open int) int {
	depth := 0
	for k := open; k < len(c.words); k++ {
		switch c.words[k] {
		case "(", "[", "{":
			depth++
		case ")", "]", "}":
			if depth--; depth == 0 {
				return k
			}
		}
	}
	return -1
}

// otherBrackets puts what stands in some brackets into others of the kind.
func (c *changer) otherBrackets() {
	kind := []string{"(", "(", "{", "["}[c.Intn(4)]
	is := func(word string) bool { return word == kind }
	a := c.find(is)
	if a < 0 {
		return
	}
	b := c.near(a, is)
	if b < 0 {
		return
	}
	aEnd, bEnd := c.closing(a), c.closing(b)
	if aEnd < 0 || bEnd < 0 {
		return
	}
	part := slices.Clone(c.words[b:bEnd])
	c.words = slices.Replace(c.words, a, aEnd, part...)
}

// around puts something around a statement.
func (c *changer) around() {
	from, to := c.statement()
	if from < 0 {
		return
	}
	ways := [][2]string{{"{", "}"}, {"if n > 2 {", "}"}, {"if n < 5 {", "} else { }"}, {"loop {", "break ; }"}, {"{ let mut j = 0 ; while j < 2 { j = j + 1 ;", "} }"}, {"if n == 1 {", "panic } ;"}, {"match n { 5 => {", "} , _ => { } }"}}
	way := ways[c.Intn(len(ways))]
	c.words = slices.Insert(c.words, to, strings.Fields(way[1])...)
	c.words = slices.Insert(c.words, from, strings.Fields(way[0])...)
}

func (c *changer) otherLife() {
	isLife := func(word string) bool { return word[0] == '\'' }
	at := c.find(isLife)
	if at < 0 {
		return
	}
	switch c.Intn(4) {
	case 0:
		c.words = slices.Delete(c.words, at, at+1)
	case 1:
		c.words[at] = "'static"
	default:
		if b := c.near(at, isLife); b >= 0 {
			c.words[at] = c.words[b]
		}
	}
}

func (c *changer) otherNumber() {
	if at := c.find(func(word string) bool { return word[0] >= '0' && word[0] <= '9' }); at >= 0 {
		c.words[at] = fmt.Sprint(c.Intn(12))
	}
}

// more puts in a statement of its own.
func (c *changer) more() {
	at := c.find(func(word string) bool { return word == ";" })
	if at < 0 {
		return
	}
	name := "n"
	if k := c.near(at, isName); k >= 0 {
		name = c.words[k]
	}
	ways := []string{"if n == 1 { panic }", "if n == 5 { return 3 ; }", "let x = $ ;", "{ let x = $ ; }", "let mut q = & $ ;", "let q = & mut $ ;", "out ( 7 ) ;", "$ = $ ;", "if n > 3 { let x = $ ; }", "let h = spawn [ $ ] -> int { 1 } ;", "let f = fn [ & $ ] ( ) -> int { 1 } ;", "let f = fn mut [ & mut $ ] ( ) -> int { 2 } ;", "let f = fn once [ $ ] ( ) { } ;", "break ;", "let b = boxed ( $ ) ;", "let t = ( $ , 1 ) ;"}
	way := strings.ReplaceAll(ways[c.Intn(len(ways))], "$", name)
	c.words = slices.Insert(c.words, at+1, strings.Fields(way)...)
}

// otherWord puts a word that is like another one in its place.
func (c *changer) otherWord() {
	alike := [][]string{{"+", "-", "*", "/", "%"}, {"<", ">", "==", "!=", "<=", ">="}, {"borrow", "borrow_mut"}, {"at", "at_mut"}, {"view", "view_mut"}, {"Box", "Rc", "Arc", "Vec", "Cell", "RefCell", "Mutex", "Option"}, {"boxed", "rc", "arc", "cell", "refcell", "mutex"}, {"break", "next", "panic", "return"}, {"&&", "||"}, {"true", "false"}, {"rc_get", "arc_get", "rc_clone", "arc_clone"}}
	for range 20 {
		list := alike[c.Intn(len(alike))]
		if at := c.find(func(word string) bool { return slices.Contains(list, word) }); at >= 0 {
			c.words[at] = list[c.Intn(len(list))]
			return
		}
	}
}
