package lexer

import (
	"slices"
	"strings"
	"testing"

	"holdfast/api"
)

const twentyBytes = "abc_efghij0123456789"

func end(at int) api.Token {
	return api.Token{Kind: api.TokEnd, At: at}
}

func sign(at int, text string) api.Token {
	return api.Token{Kind: api.TokSign, At: at, Text: text}
}

// P4: the tokens of a text in their order, with their places, and one of kind TokEnd behind them.
func TestTokens(t *testing.T) {
	for _, c := range []struct {
		text string
		want []api.Token
	}{
		{"", []api.Token{end(0)}},
		{" \t\n", []api.Token{end(3)}},
		{"#", []api.Token{end(1)}},
		{"# a ' @ \x00\xff\xc3", []api.Token{end(11)}},
		{"#\n#\xe2\n1", []api.Token{{Kind: api.TokInt, At: 5, N: 1}, end(6)}},
		{"a#b\nc", []api.Token{{Kind: api.TokName, At: 0, Text: "a"}, {Kind: api.TokName, At: 4, Text: "c"}, end(5)}},
		{"007", []api.Token{{Kind: api.TokInt, At: 0, N: 7}, end(3)}},
		{"0", []api.Token{{Kind: api.TokInt, At: 0}, end(1)}},
		{"9223372036854775807", []api.Token{{Kind: api.TokInt, At: 0, N: 9223372036854775807}, end(19)}},
		{strings.Repeat("0", 30) + "9", []api.Token{{Kind: api.TokInt, At: 0, N: 9}, end(31)}},
		{"12ab", []api.Token{{Kind: api.TokInt, At: 0, N: 12}, {Kind: api.TokName, At: 2, Text: "ab"}, end(4)}},
		{"1.5", []api.Token{{Kind: api.TokInt, At: 0, N: 1}, sign(1, "."), {Kind: api.TokInt, At: 2, N: 5}, end(3)}},
		{"Mod mod mods", []api.Token{{Kind: api.TokName, At: 0, Text: "Mod"}, {Kind: api.TokWord, At: 4, Text: "mod"}, {Kind: api.TokName, At: 8, Text: "mods"}, end(12)}},
		{"_x_1", []api.Token{sign(0, "_"), {Kind: api.TokName, At: 1, Text: "x_1"}, end(4)}},
		{"'a'mut 'static", []api.Token{{Kind: api.TokLife, At: 0, Text: "'a"}, {Kind: api.TokLife, At: 2, Text: "'mut"}, {Kind: api.TokLife, At: 7, Text: "'static"}, end(14)}},
		{twentyBytes, []api.Token{{Kind: api.TokName, At: 0, Text: twentyBytes}, end(20)}},
		{"'" + twentyBytes, []api.Token{{Kind: api.TokLife, At: 0, Text: "'" + twentyBytes}, end(21)}},
	} {
		got, fault := Tokens(c.text)
		if fault != (api.Fault{}) || !slices.Equal(got, c.want) {
			t.Errorf("%q: %v, %v", c.text, got, fault)
		}
	}
}

// P4: a sign is as long as it can be.
func TestSigns(t *testing.T) {
	for _, c := range [][]string{
		{"::", ":"}, {"->", ">"}, {"=>", "="}, {"==", "=>"}, {"==", "="}, {"!=", "="}, {"<=", "="}, {">=", ">"},
		{"&&", "&"}, {"||"}, {"||", "||"}, {"<", "->"}, {">", ">"}, {"-", "-", "="}, {"!", "!", "!="}, {"&", "!"}, {"=", "<="},
		{"(", ")", "{", "}", "[", "]", "<", ">", ",", ";", ":", ".", "=", "+", "-", "*", "/", "%", "&", "!", "_"},
	} {
		text := strings.Join(c, "")
		got, fault := Tokens(text)
		if fault != (api.Fault{}) || len(got) != len(c)+1 {
			t.Errorf("%q: %v, %v", text, got, fault)
			continue
		}
		at := 0
		for i, s := range c {
			if got[i] != sign(at, s) {
				t.Errorf("%q: %v is not %q at %d", text, got[i], s, at)
			}
			at += len(s)
		}
	}
}

// P4: the fault at the first byte that has one, and no tokens beside it.
func TestFaults(t *testing.T) {
	for _, c := range []struct {
		text string
		want api.Fault
	}{
		{strings.Repeat(" ", api.MaxText+1), api.Fault{Kind: api.ErrLong}},
		{strings.Repeat("@", api.MaxText+1), api.Fault{Kind: api.ErrLong}},
		{strings.Repeat(" ", api.MaxText-1) + "@", api.Fault{Kind: api.ErrByte, At: api.MaxText - 1}},
		{"9223372036854775808", api.Fault{Kind: api.ErrToken}},
		{"a 00" + "9223372036854775808 @", api.Fault{Kind: api.ErrToken, At: 2}},
		{strings.Repeat("1", 100), api.Fault{Kind: api.ErrToken}},
		{"@ 9223372036854775808", api.Fault{Kind: api.ErrByte}},
		{"-" + twentyBytes + "_", api.Fault{Kind: api.ErrToken, At: 1}},
		{"1 '" + twentyBytes + "k", api.Fault{Kind: api.ErrToken, At: 2}},
		{"a'", api.Fault{Kind: api.ErrByte, At: 1}},
		{"' a", api.Fault{Kind: api.ErrByte}},
		{"'_a", api.Fault{Kind: api.ErrByte}},
		{"'1a", api.Fault{Kind: api.ErrByte}},
		{"''a", api.Fault{Kind: api.ErrByte}},
		{"|||", api.Fault{Kind: api.ErrByte, At: 2}},
		{"a | b", api.Fault{Kind: api.ErrByte, At: 2}},
		{"aé", api.Fault{Kind: api.ErrByte, At: 1}},
		{"\xa9", api.Fault{Kind: api.ErrByte}},
		{"#é\n\ufffd", api.Fault{Kind: api.ErrByte, At: 4}},
		{"'é", api.Fault{Kind: api.ErrByte}},
	} {
		got, fault := Tokens(c.text)
		if fault != c.want || len(got) != 0 {
			t.Errorf("%q: %v, %v, not %v", c.text, got, fault, c.want)
		}
	}
}

func TestLongestText(t *testing.T) {
	text := strings.Repeat("(", api.MaxText)
	got, fault := Tokens(text)
	if fault != (api.Fault{}) || len(got) != api.MaxText+1 || got[api.MaxText] != end(api.MaxText) {
		t.Error(len(got), fault)
	}
}

// P4: which kind of token each byte begins, or that it begins none.
func TestEachByte(t *testing.T) {
	for b := range 256 {
		text := string([]byte{byte(b)})
		want := []int{api.TokSign, api.TokEnd}
		kind := api.OK
		switch {
		case strings.Contains(" \t\n#", text):
			want = []int{api.TokEnd}
		case '0' <= b && b <= '9':
			want[0] = api.TokInt
		case 'a' <= b && b <= 'z' || 'A' <= b && b <= 'Z':
			want[0] = api.TokName
		case !strings.Contains("(){}[]<>,;:.=+-*/%&!_", text):
			want, kind = nil, api.ErrByte
		}
		got, fault := Tokens(text)
		if fault != (api.Fault{Kind: kind}) || !slices.Equal(kinds(got), want) {
			t.Errorf("%q: %v, %v", text, got, fault)
		}
	}
}

func kinds(tokens []api.Token) []int {
	var all []int
	for _, token := range tokens {
		all = append(all, token.Kind)
	}
	return all
}

// P5: the words of the language, and nothing else.
func TestWord(t *testing.T) {
	all := strings.Fields("mod use pub copy struct enum trait impl for fn let mut if else match while loop break next return panic make ref once spawn true false int bool")
	for _, word := range all {
		got, _ := Tokens(word)
		if !Word(word) || len(got) != 2 || got[0] != (api.Token{Kind: api.TokWord, Text: word}) {
			t.Errorf("%q is a word: %v", word, got)
		}
		for _, other := range []string{strings.ToUpper(word), word + "s", word + " ", " " + word, "'" + word, word + "_"} {
			if Word(other) {
				t.Errorf("%q is no word", other)
			}
		}
	}
	for _, other := range []string{"", "self", "Self", "main", "static", "x", "::", "1", "drop", "continue"} {
		if Word(other) {
			t.Errorf("%q is no word", other)
		}
	}
}
