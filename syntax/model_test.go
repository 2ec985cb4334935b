package syntax_test

import (
	"strings"

	"effectus/api"
	"effectus/lexer"
)

// grammar is the chapter's own, with blanks around its brackets; "" is TokEnd.
const grammar = `
prog  = { "op" ( "once" | "many" ) name ":" type "=>" type } { "def" [ "rec" ] name name { name } "=" expr } "main" "=" expr ""
type  = pair [ ( "->" | "-" "{" name { "," name } "}" "->" ) type ]
pair  = some [ "*" pair ]
some  = tatom { "list" }
tatom = "int" | "bool" | "unit" | "(" type ")"
expr  = "let" name { name } "=" expr "in" expr | "let" "rec" name name { name } "=" expr "in" expr | "fn" name { name } "=>" expr | "if" expr "then" expr "else" expr | "case" expr "of" "[" "]" "=>" expr "|" name "::" name "=>" expr "end" | ( "handle" | "shallow" ) expr "with" "{" "return" name "=>" expr { "|" name name name "=>" expr } "}" | comp [ ";" expr ]
comp  = cons [ ( "==" | "<" ) cons ]
cons  = sum [ "::" cons ]
sum   = mul { ( "+" | "-" ) mul }
mul   = app { "*" app }
app   = "do" name atom | ( "fst" | "snd" ) atom | atom { atom }
atom  = name | number | "~" number | "true" | "false" | "(" ")" | "(" expr ")" | "(" expr "," expr ")" | "[" "]" | "[" expr { "," expr } "]"
`

// form is a part of the grammar: quoted (said), a rule or a kind of tokens (its name), or other forms: choices, a row, once or not, again and again.
type form struct {
	what, said string
	parts      []*form
}

const (
	quoted  = `"`
	choices = "|"
	row     = "&"
	maybe   = "["
	again   = "{"
)

func rulesOf(text string) map[string]*form {
	rules := map[string]*form{}
	for _, line := range strings.Split(strings.TrimSpace(text), "\n") {
		words := strings.Fields(line)
		left := words[2:]
		rules[words[0]] = choicesOf(&left)
	}
	return rules
}

func choicesOf(left *[]string) *form {
	f := &form{what: choices, parts: []*form{rowOf(left)}}
	for len(*left) > 0 && (*left)[0] == "|" {
		*left = (*left)[1:]
		f.parts = append(f.parts, rowOf(left))
	}
	return f
}

func rowOf(left *[]string) *form {
	f := &form{what: row}
	for len(*left) > 0 && !strings.Contains(")]}|", (*left)[0]) {
		f.parts = append(f.parts, partOf(left))
	}
	return f
}

func partOf(left *[]string) *form {
	word := (*left)[0]
	*left = (*left)[1:]
	switch word[:1] {
	case quoted:
		return &form{what: quoted, said: strings.Trim(word, quoted)}
	case "(", maybe, again:
		f := &form{what: word, parts: []*form{choicesOf(left)}}
		*left = (*left)[1:]
		return f
	}
	return &form{what: word}
}

// leaf is a token, or what a rule has read.
type leaf struct {
	rule  string
	token api.Token
	parts []leaf
}

// walk reads by the grammar: it tries one choice after the other, and goes back where one fails.
type walk struct {
	rules  map[string]*form
	tokens []api.Token
	broken bool // the last of the tokens stands for one that is none
	far    int  // the last token at which something failed
	deep   bool // at far there would be one too many within others
	depth  map[string]int
	known  map[place]reading
}

type place struct {
	rule              string
	at, exprs, typess int
}

type reading struct {
	leaf leaf
	next int
	ok   bool
}

func (w *walk) fail(at int) ([]leaf, int, bool) {
	w.far = max(w.far, at)
	return nil, at, false
}

func (w *walk) read(f *form, at int) ([]leaf, int, bool) {
	if w.deep {
		return w.fail(at)
	}
	switch f.what {
	case quoted, "name", "number":
		if w.broken && at == len(w.tokens)-1 || !f.takes(w.tokens[at]) {
			return w.fail(at)
		}
		return []leaf{{token: w.tokens[at]}}, at + 1, true
	case choices:
		for _, part := range f.parts {
			if got, next, ok := w.read(part, at); ok {
				return got, next, true
			}
		}
		return w.fail(at)
	case row, "(":
		return w.readRow(f.parts, at)
	case maybe, again:
		return w.readAgain(f, at)
	}
	return w.readRule(f.what, at)
}

func (f *form) takes(token api.Token) bool {
	switch f.what {
	case "name":
		return token.Kind == api.TokName
	case "number":
		return token.Kind == api.TokInt
	}
	return token.Text == f.said && token.Kind != api.TokInt
}

func (w *walk) readRow(parts []*form, at int) ([]leaf, int, bool) {
	var all []leaf
	for _, part := range parts {
		got, next, ok := w.read(part, at)
		if !ok {
			return w.fail(at)
		}
		all, at = append(all, got...), next
	}
	return all, at, true
}

func (w *walk) readAgain(f *form, at int) ([]leaf, int, bool) {
	var all []leaf
	for {
		got, next, ok := w.read(f.parts[0], at)
		if w.deep {
			return w.fail(at)
		}
		if !ok {
			return all, at, true
		}
		all, at = append(all, got...), next
		if f.what == maybe {
			return all, at, true
		}
	}
}

func (w *walk) readRule(rule string, at int) ([]leaf, int, bool) {
	if w.depth[rule] == api.MaxDepth && (rule == "expr" || rule == "type") {
		w.deep = true
		return w.fail(at)
	}
	key := place{rule, at, w.depth["expr"], w.depth["type"]}
	r, found := w.known[key]
	if !found {
		w.depth[rule]++
		parts, next, ok := w.read(w.rules[rule], at)
		w.depth[rule]--
		r = reading{leaf{rule: rule, parts: parts}, next, ok}
		w.known[key] = r
	}
	if !r.ok {
		return w.fail(at)
	}
	return []leaf{r.leaf}, r.next, true
}

// model is P2.1 and P2.2 written a second time.
func model(rules map[string]*form, text string) (api.Node, api.Fault) {
	tokens, fault := lexer.Tokens(text)
	if fault.Kind == api.ErrLong {
		return api.Node{}, fault
	}
	w := &walk{rules: rules, tokens: tokens, depth: map[string]int{}, known: map[place]reading{}}
	if fault.Kind != api.OK {
		w.tokens, _ = lexer.Tokens(text[:fault.At])
		w.broken = true
	}
	got, _, ok := w.read(&form{what: "prog"}, 0)
	switch {
	case ok:
		return programOf(got[0].parts), api.Fault{}
	case w.broken && w.far == len(w.tokens)-1:
		return api.Node{}, fault
	case w.deep:
		return api.Node{}, api.Fault{Kind: api.ErrDeep, At: w.tokens[w.far].At}
	}
	return api.Node{}, api.Fault{Kind: api.ErrSyntax, At: w.tokens[w.far].At}
}
