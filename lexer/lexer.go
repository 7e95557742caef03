// Package lexer: the tokens of a text (chapter 1).
package lexer

import (
	"strconv"
	"strings"

	"holdfast/api"
)

// words are the words of the language.
var words = [...]string{
	"mod", "use", "pub", "copy", "struct", "enum", "trait", "impl", "for", "fn",
	"let", "mut", "if", "else", "match", "while", "loop", "break", "next", "return",
	"panic", "make", "ref", "once", "spawn", "true", "false", "int", "bool",
}

// signs are the signs of the language. Those of two bytes stand first: the first one that fits is the longest.
var signs = [...]string{
	"::", "->", "=>", "==", "!=", "<=", ">=", "&&", "||",
	"(", ")", "{", "}", "[", "]", "<", ">", ",", ";", ":", ".",
	"=", "+", "-", "*", "/", "%", "&", "!", "_",
}

// Tokens answers the tokens of a text, and behind them one of kind TokEnd, or the first fault.
func Tokens(text string) ([]api.Token, api.Fault) {
	if len(text) > api.MaxText {
		return nil, api.Fault{Kind: api.ErrLong}
	}
	var tokens []api.Token
	end := 0 // up to there the text has been read
scan:
	for at, r := range text {
		if at < end || isBlank(r) {
			continue scan
		}
		rest := text[at:]
		if r == '#' {
			end = at + span(rest, inRemark)
			continue scan
		}
		token, size, kind := plainToken(rest)
		if kind != api.OK {
			return nil, api.Fault{Kind: kind, At: at}
		}
		if size > 0 {
			token.At = at
			tokens = append(tokens, token)
			end = at + size
			continue scan
		}
		for _, sign := range signs {
			if strings.HasPrefix(rest, sign) {
				tokens = append(tokens, api.Token{Kind: api.TokSign, At: at, Text: sign})
				end = at + len(sign)
				continue scan
			}
		}
		return nil, api.Fault{Kind: api.ErrByte, At: at}
	}
	return append(tokens, api.Token{Kind: api.TokEnd, At: len(text)}), api.Fault{}
}

// Word says whether a text is a word of the language.
func Word(s string) bool {
	for _, word := range words {
		if s == word {
			return true
		}
	}
	return false
}

// plainToken reads the number, name or lifetime that a text begins with, and answers how many bytes it has: 0 if none stands there.
func plainToken(text string) (api.Token, int, api.Errno) {
	if size := span(text, isDigit); size > 0 {
		return number(text[:size])
	}
	if size := nameSize(text); size > 0 {
		return name(text[:size])
	}
	if size := nameSize(text[1:]); size > 0 && text[0] == '\'' {
		return life(text[:1+size])
	}
	return api.Token{}, 0, api.OK
}

// nameSize is how many bytes the name has that a text begins with: 0 if it begins with none.
func nameSize(text string) int {
	if span(text, isLetter) == 0 {
		return 0
	}
	return span(text, inName)
}

func number(digits string) (api.Token, int, api.Errno) {
	n, err := strconv.Atoi(digits)
	if err != nil {
		return api.Token{}, 0, api.ErrToken
	}
	return api.Token{Kind: api.TokInt, N: n}, len(digits), api.OK
}

func life(text string) (api.Token, int, api.Errno) {
	if len(text)-1 > api.MaxName {
		return api.Token{}, 0, api.ErrToken
	}
	return api.Token{Kind: api.TokLife, Text: text}, len(text), api.OK
}

func name(text string) (api.Token, int, api.Errno) {
	if Word(text) {
		return api.Token{Kind: api.TokWord, Text: text}, len(text), api.OK
	}
	if len(text) > api.MaxName {
		return api.Token{}, 0, api.ErrToken
	}
	return api.Token{Kind: api.TokName, Text: text}, len(text), api.OK
}

// span is how many bytes at the beginning of a text are of a sort.
func span(text string, sort func(rune) bool) int {
	for at, r := range text {
		if !sort(r) {
			return at
		}
	}
	return len(text)
}

func isBlank(r rune) bool {
	return r == ' ' || r == '\t' || r == '\n'
}

func inRemark(r rune) bool {
	return r != '\n'
}

func isDigit(r rune) bool {
	return '0' <= r && r <= '9'
}

func isLetter(r rune) bool {
	return 'a' <= r && r <= 'z' || 'A' <= r && r <= 'Z'
}

func inName(r rune) bool {
	return isLetter(r) || isDigit(r) || r == '_'
}
