// Package lexer finds the tokens of a text.
package lexer

import (
	"strconv"
	"strings"

	"effectus/api"
)

// class is what a byte may begin.
type class int

const (
	other class = iota
	blank
	hash
	digit
	letter
	mark
)

// Tokens cuts a text into its tokens, with TokEnd behind the last one.
func Tokens(text string) ([]api.Token, api.Fault) {
	if len(text) > api.MaxText {
		return nil, api.Fault{Kind: api.ErrLong}
	}
	var tokens []api.Token
	var fault api.Fault
	next := 0
scan:
	for at, r := range text {
		if at < next {
			continue scan
		}
		var token api.Token
		var length int
		switch rest := text[at:]; classOf(r) {
		case blank:
			continue scan
		case hash:
			line := strings.IndexByte(rest, '\n')
			if line < 0 {
				break scan
			}
			next = at + line
			continue scan
		case digit:
			token, length = number(rest)
		case letter:
			token, length = name(rest)
		case mark:
			token, length = sign(rest)
		default:
			fault = api.Fault{Kind: api.ErrByte, At: at}
			break scan
		}
		if length == 0 {
			fault = api.Fault{Kind: api.ErrToken, At: at}
			break scan
		}
		token.At = at
		tokens = append(tokens, token)
		next = at + length
	}
	if fault.Kind != api.OK {
		return nil, fault
	}
	return append(tokens, api.Token{Kind: api.TokEnd, At: len(text)}), fault
}

// classOf takes a rune, not a byte: a rune cut down to a byte could look like a letter.
func classOf(r rune) class {
	switch {
	case r == '\t' || r == '\n' || r == '\r' || r == ' ':
		return blank
	case r == '#':
		return hash
	case '0' <= r && r <= '9':
		return digit
	case 'a' <= r && r <= 'z' || 'A' <= r && r <= 'Z' || r == '_':
		return letter
	case strings.ContainsRune("()[]{},;:=-+*<|~", r):
		return mark
	}
	return other
}

// number answers a length of 0 where the digits are no token.
func number(rest string) (api.Token, int) {
	digits := rest[:span(rest, false)]
	if len(digits) > 1 && digits[0] == '0' {
		return api.Token{}, 0
	}
	n, err := strconv.ParseInt(digits, 10, 64)
	if err != nil {
		return api.Token{}, 0
	}
	return api.Token{Kind: api.TokInt, N: int(n)}, len(digits)
}

// name answers a length of 0 where the name is no token.
func name(rest string) (api.Token, int) {
	length := span(rest, true)
	if length > api.MaxName {
		return api.Token{}, 0
	}
	kind := api.TokName
	if isWord(rest[:length]) {
		kind = api.TokWord
	}
	return textToken(kind, rest[:length]), length
}

func sign(rest string) (api.Token, int) {
	length := 1
	if len(rest) > 1 {
		switch rest[:2] {
		case "::", "==", "=>", "->":
			length = 2
		}
	}
	return textToken(api.TokSign, rest[:length]), length
}

// textToken copies, since an answer shares no memory with the text.
func textToken(kind int, said string) api.Token {
	return api.Token{Kind: kind, Text: strings.Clone(said)}
}

// span tells how many bytes the digits at the beginning of rest have; with letters, the digits and letters.
func span(rest string, letters bool) int {
	for at, r := range rest {
		c := classOf(r)
		if c != digit && !(letters && c == letter) {
			return at
		}
	}
	return len(rest)
}

func isWord(said string) bool {
	switch said {
	case "op", "once", "many", "def", "rec", "main", "let", "in", "fn",
		"if", "then", "else", "case", "of", "end", "do", "fst", "snd",
		"handle", "shallow", "with", "return", "true", "false",
		"int", "bool", "unit", "list":
		return true
	}
	return false
}
