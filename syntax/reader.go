package syntax

import (
	"effectus/api"
	"effectus/lexer"
)

// refusal is what a rule panics with when it can't go on.
type refusal struct{ fault api.Fault }

type reader struct {
	tokens       []api.Token
	next         int
	broken       api.Fault // where TokEnd stands for a token that is none
	exprs, types int       // how many are being read, each within the one before it
}

// newReader cuts what stands ahead of a token that is none for itself: that token is told of only when it is looked at.
func newReader(text string) *reader {
	tokens, broken := lexer.Tokens(text)
	if broken.Kind != api.OK {
		tokens, _ = lexer.Tokens(text[:broken.At])
	}
	return &reader{tokens: tokens, broken: broken}
}

// within reads one more thing of a kind of which depth others are being read around it.
func within[T any](r *reader, depth *int, rule func() T) T {
	if next := r.look(); *depth == api.MaxDepth {
		panic(refusal{api.Fault{Kind: api.ErrDeep, At: next.At}})
	}
	*depth++
	thing := rule()
	*depth--
	return thing
}

// look answers the next token, which it leaves where it is.
func (r *reader) look() api.Token {
	token := r.tokens[r.next]
	if token.Kind == api.TokEnd && r.broken.Kind != api.OK {
		panic(refusal{r.broken})
	}
	return token
}

// wrong says that the next token can't stand where it does.
func (r *reader) wrong() {
	panic(refusal{api.Fault{Kind: api.ErrSyntax, At: r.look().At}})
}

// sees tells whether a word or a sign is next; no name is written like one of these.
func (r *reader) sees(said string) bool {
	return r.look().Text == said
}

func (r *reader) take() api.Token {
	token := r.look()
	r.next++
	return token
}

// takes takes a word or a sign if it is next.
func (r *reader) takes(said string) bool {
	if !r.sees(said) {
		return false
	}
	r.next++
	return true
}

func (r *reader) need(said string) {
	if !r.takes(said) {
		r.wrong()
	}
}

func (r *reader) needKind(kind int) api.Token {
	if r.look().Kind != kind {
		r.wrong()
	}
	return r.take()
}

func (r *reader) name() api.Token {
	return r.needKind(api.TokName)
}

// names reads as many names as there are, at least some of them.
func (r *reader) names(least int) []api.Token {
	var names []api.Token
	for len(names) < least || r.look().Kind == api.TokName {
		names = append(names, r.name())
	}
	return names
}

// named is a name that is a node of its own.
func (r *reader) named() api.Node {
	name := r.name()
	return api.Node{Kind: api.PName, At: name.At, Name: name.Text}
}
