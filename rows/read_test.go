package rows_test

import (
	"fmt"
	"regexp"
	"slices"
	"strconv"
	"strings"
	"testing"

	"effectus/api"
	"effectus/rows"
)

// typeReader reads types as the chapter writes them, with brackets and blanks as one likes.
type typeReader struct {
	text   string
	tokens []string
}

var typeTokens = regexp.MustCompile(`-\{|\}->|->|[()*,|]|\w+`)

// ty is the type that a text stands for.
func ty(text string) api.Type {
	r := &typeReader{text: text, tokens: typeTokens.FindAllString(text, -1)}
	t := r.arrow()
	if len(r.tokens) > 0 {
		panic(text + ": " + r.tokens[0])
	}
	return t
}

func (r *typeReader) sees(token string) bool {
	return len(r.tokens) > 0 && r.tokens[0] == token
}

func (r *typeReader) take() string {
	token := r.tokens[0]
	r.tokens = r.tokens[1:]
	return token
}

func (r *typeReader) takes(token string) bool {
	return r.sees(token) && r.take() == token
}

func (r *typeReader) arrow() api.Type {
	from := r.pair()
	t := api.Type{Kind: api.TyFn}
	switch {
	case r.takes("->"):
	case r.takes("-{"):
		for !r.sees("|") && !r.sees("}->") {
			t.Ops = append(t.Ops, r.take())
			r.takes(",")
		}
		if r.takes("|") {
			t.Row = r.number(strings.TrimPrefix(r.take(), "r"))
		}
		r.take()
	default:
		return from
	}
	t.Args = []api.Type{from, r.arrow()}
	return t
}

func (r *typeReader) pair() api.Type {
	t := r.list()
	if r.takes("*") {
		t = api.Type{Kind: api.TyPair, Args: []api.Type{t, r.pair()}}
	}
	return t
}

func (r *typeReader) list() api.Type {
	t := r.atom()
	for r.takes("list") {
		t = api.Type{Kind: api.TyList, Args: []api.Type{t}}
	}
	return t
}

func (r *typeReader) atom() api.Type {
	switch token := r.take(); {
	case token == "int":
		return api.Type{Kind: api.TyInt}
	case token == "bool":
		return api.Type{Kind: api.TyBool}
	case token == "unit":
		return api.Type{Kind: api.TyUnit}
	case token == "(":
		t := r.arrow()
		r.take()
		return t
	case len(token) == 1:
		return api.Type{Kind: api.TyVar, N: int(token[0]-'a') + 1}
	default:
		return api.Type{Kind: api.TyVar, N: r.number(token[1:])}
	}
}

func (r *typeReader) number(digits string) int {
	n, err := strconv.Atoi(digits)
	if err != nil {
		panic(r.text + ": " + err.Error())
	}
	return n
}

// pairsOf takes pairs from texts with a = between their sides.
func pairsOf(texts ...string) []api.Pair {
	var pairs []api.Pair
	for _, text := range texts {
		a, b, found := strings.Cut(text, "=")
		if !found {
			panic(text)
		}
		pairs = append(pairs, api.Pair{A: ty(a), B: ty(b)})
	}
	return pairs
}

// equal: an empty list may be nil or not.
func equal(a, b api.Type) bool {
	return a.Kind == b.Kind && a.N == b.N && a.Row == b.Row && slices.Equal(a.Ops, b.Ops) && slices.EqualFunc(a.Args, b.Args, equal)
}

// bare writes any type that ends, with all that it has.
func bare(t api.Type) string {
	args := ""
	for _, arg := range t.Args {
		args += " " + bare(arg)
	}
	return fmt.Sprintf("(%d %d %q %d%s)", t.Kind, t.N, t.Ops, t.Row, args)
}

func clonePairs(pairs []api.Pair) []api.Pair {
	clones := make([]api.Pair, len(pairs))
	for i, pair := range pairs {
		clones[i] = api.Pair{A: cloneType(pair.A), B: cloneType(pair.B)}
	}
	return clones
}

func cloneType(t api.Type) api.Type {
	t.Ops = slices.Clone(t.Ops)
	t.Args = slices.Clone(t.Args)
	for i, arg := range t.Args {
		t.Args[i] = cloneType(arg)
	}
	return t
}

// partsOf counts by the chapter's words.
func partsOf(t api.Type) int {
	parts := 1 + len(t.Ops)
	for _, arg := range t.Args {
		parts += partsOf(arg)
	}
	return parts
}

// checkSolved wants the answers as Show writes them.
func checkSolved(t *testing.T, pairs []api.Pair, want ...string) {
	t.Helper()
	got, fault := rows.Solve(pairs)
	if fault != (api.Fault{}) || len(got) != len(want) {
		t.Errorf("%s: %d types, fault %v, want %d", briefly(pairs), len(got), fault, len(want))
		return
	}
	for i, text := range want {
		if !equal(got[i], ty(text)) {
			t.Errorf("%s: pair %d becomes %s, want %s", briefly(pairs), i, rows.Show(got[i]), text)
		}
	}
}

func checkFault(t *testing.T, pairs []api.Pair, kind api.Errno, at int) {
	t.Helper()
	got, fault := rows.Solve(pairs)
	if fault != (api.Fault{Kind: kind, At: at}) {
		t.Errorf("%s: fault %v, want %d at %d", briefly(pairs), fault, kind, at)
	}
	if len(got) > 0 {
		t.Errorf("%s: %d types besides a fault", briefly(pairs), len(got))
	}
}

func briefly(pairs []api.Pair) string {
	var texts []string
	for _, pair := range pairs {
		texts = append(texts, rows.Show(pair.A)+" = "+rows.Show(pair.B))
	}
	return fmt.Sprintf("%.300s", strings.Join(texts, "; "))
}
