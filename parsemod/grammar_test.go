package parsemod

import (
	"math/rand"
	"slices"
	"strings"
	"sync"

	"pilaster/api"
	"pilaster/lexer"
	"pilaster/syntax"
)

// chapter is the grammar of the chapter, a rule a line, with that of layer 4 (whose rule simple has another name here), and a rule for declarations alone. The tests read it, and follow all of its alternatives at once, so that the parser is compared with something unlike it.
const chapter = `signature: ( "functor" | "generative" ) "(" UPPER ":" signature ")" "=>" signature | refined
refined: plain { "with" "type" params TPATH "=" type }
plain: "sig" { spec } "end" | MPATH | "(" signature ")"
params: [ VAR | "(" VAR "," VAR { "," VAR } ")" ]
spec: "val" LOWER ":" type | "type" params LOWER [ "=" type ] | data | "structure" UPPER ":" signature | "signature" UPPER "=" signature | "include" signature | "sharing" "type" TPATH "=" TPATH
data: "data" params LOWER "=" constructor { "|" constructor }
constructor: UPPER [ "of" type ]
module: ( "functor" | "generative" ) "(" UPPER ":" signature ")" "=>" module | sealed
sealed: applied { ( ":" | ":>" ) plain }
applied: simple { "(" module ")" }
simple: "struct" { decl } "end" | MPATH | "(" module ")" | "let" { decl } "in" module "end" | "unpack" atom ":" MPATH
decl: "val" LOWER "=" expression | "fun" LOWER LOWER { LOWER } "=" expression | "type" params LOWER "=" type | data | "structure" UPPER "=" module | "signature" UPPER "=" signature | "open" MPATH | "include" MPATH
decls: { decl }
unit: [ "import" UPPER { "," UPPER } ";" ] { decl }
MPATH: UPPER { "." UPPER }
TPATH: { UPPER "." } LOWER
VPATH: { UPPER "." } LOWER
type: product [ "->" type ]
product: postfix { "*" postfix }
postfix: ( simpletype | "(" type "," type { "," type } ")" TPATH ) { TPATH }
simpletype: VAR | TPATH | "(" type ")" | "(" "module" MPATH ")"
pattern: MPATH [ argument ] | "_" | LOWER | NUMBER | "~" NUMBER | "(" ")" | "(" pattern { "," pattern } ")"
argument: "_" | LOWER | NUMBER | "~" NUMBER | MPATH | "(" ")" | "(" pattern { "," pattern } ")"
expression: "fn" ( LOWER | "_" ) "=>" expression | "if" expression "then" expression "else" expression | disjunction
disjunction: conjunction [ "orelse" disjunction ]
conjunction: comparison [ "andalso" conjunction ]
comparison: joined [ ( "=" | "<" | "<=" ) joined ]
joined: sum [ "^" joined ]
sum: term { ( "+" | "-" ) term }
term: negation { ( "*" | "div" | "mod" ) negation }
negation: "~" negation | application
application: atom { atom }
atom: NUMBER | TEXT | VPATH | MPATH | "(" ")" | "(" expression { "," expression } ")" | "(" expression ":" type ")" | "(" "pack" MPATH ":" MPATH ")" | "let" { declaration } "in" expression "end" | "case" expression "of" rule { "|" rule } "end"
rule: pattern "=>" expression
declaration: "val" LOWER "=" expression | "fun" LOWER LOWER { LOWER } "=" expression | "structure" UPPER "=" "unpack" atom ":" MPATH`

// form is a part of the grammar: the bar of alternatives, the comma of a sequence, the brace of a repetition, the bracket of an option, or 0 for a word.
type form struct {
	kind  byte
	word  string // a terminal, with its quotation marks, or the name of a rule
	parts []form
}

// formReader reads a rule from its words.
type formReader struct{ words []string }

func (r *formReader) isAt(words ...string) bool {
	return len(r.words) > 0 && slices.Contains(words, r.words[0])
}

func (r *formReader) take() string {
	w := r.words[0]
	r.words = r.words[1:]
	return w
}

func (r *formReader) alternatives() form {
	f := form{kind: '|', parts: []form{r.sequence()}}
	for r.isAt("|") {
		r.take()
		f.parts = append(f.parts, r.sequence())
	}
	return f
}

func (r *formReader) sequence() form {
	f := form{kind: ','}
	for len(r.words) > 0 && !r.isAt("|", ")", "]", "}") {
		f.parts = append(f.parts, r.one())
	}
	return f
}

func (r *formReader) one() form {
	w := r.take()
	switch w {
	case "(", "[", "{":
		f := form{kind: w[0], parts: []form{r.alternatives()}}
		r.take()
		return f
	}
	return form{word: w}
}

// rules returns the forms of the rules by their names.
var rules = sync.OnceValue(func() map[string]form {
	m := map[string]form{}
	for line := range strings.Lines(chapter) {
		name, words, _ := strings.Cut(line, ":")
		r := formReader{strings.Fields(words)}
		m[name] = r.alternatives()
	}
	return m
})

// fits reports whether a token is a terminal of the grammar.
func fits(terminal string, t api.Token) bool {
	switch terminal {
	case "LOWER":
		return t.Kind == api.TokLower
	case "UPPER":
		return t.Kind == api.TokUpper
	case "VAR":
		return t.Kind == api.TokVar
	case "NUMBER":
		return t.Kind == api.TokInt
	case "TEXT":
		return t.Kind == api.TokText
	}
	w := word(strings.Trim(terminal, `"`))
	return t.Kind == w.Kind && t.Text == w.Text
}

// piece is a part of a text: a token, if it has no rule.
type piece struct {
	rule  string
	token api.Token
	parts []piece
}

// span is a way to read a form, and the index after it.
type span struct {
	parts []piece
	next  int
}

type start struct {
	rule string
	at   int
}

// reading finds all ways in which the tokens can be read.
type reading struct {
	tokens []api.Token
	known  map[start][]span
	reach  int             // the index after the last token that was read in any way
	wanted map[string]bool // the terminals that would have been read in place of the end
}

func newReading(l []api.Token) *reading {
	return &reading{l, map[start][]span{}, 0, map[string]bool{}}
}

func (r *reading) all(f form, at int) []span {
	switch f.kind {
	case '|':
		var l []span
		for _, alternative := range f.parts {
			l = append(l, r.all(alternative, at)...)
		}
		return l
	case ',':
		l := []span{{nil, at}}
		for _, p := range f.parts {
			l = r.longer(l, p)
		}
		return l
	case '{':
		l := []span{{nil, at}}
		for last := l; len(last) > 0; l = append(l, last...) {
			last = r.longer(last, f.parts[0])
		}
		return l
	case '[':
		return append(r.all(f.parts[0], at), span{nil, at})
	case '(':
		return r.all(f.parts[0], at)
	}
	if _, ok := rules()[f.word]; ok {
		return r.rule(f.word, at)
	}
	return r.terminal(f.word, at)
}

// longer continues each of the spans with a form.
func (r *reading) longer(l []span, f form) []span {
	var longer []span
	for _, s := range l {
		for _, x := range r.all(f, s.next) {
			longer = append(longer, span{slices.Concat(s.parts, x.parts), x.next})
		}
	}
	return longer
}

func (r *reading) terminal(word string, at int) []span {
	t := r.tokens[at]
	if t.Kind == api.TokEnd {
		r.wanted[word] = true
		return nil
	}
	if !fits(word, t) {
		return nil
	}
	r.reach = max(r.reach, at+1)
	return []span{{[]piece{{token: t}}, at + 1}}
}

func (r *reading) rule(name string, at int) []span {
	if l, ok := r.known[start{name, at}]; ok {
		return l
	}
	var l []span
	for _, s := range r.all(rules()[name], at) {
		l = append(l, span{[]piece{{rule: name, parts: s.parts}}, s.next})
	}
	r.known[start{name, at}] = l
	return l
}

// wants reports whether a token could stand in place of the end.
func (r *reading) wants(t api.Token) bool {
	for terminal := range r.wanted {
		if fits(terminal, t) {
			return true
		}
	}
	return false
}

// want returns what the function for a rule returns for a source, according to the definitions: the longest beginning decides.
func want(rule, s string) result {
	l, at, e := lexer.Tokens(s)
	if e != api.OK {
		return wrongAt(at, e)
	}
	r := newReading(l)
	var found []piece
	for _, s := range r.rule(rule, 0) {
		if s.next == len(l)-1 {
			found = append(found, s.parts...)
		}
	}
	switch {
	case len(found) > 1:
		panic("the grammar is ambiguous")
	case len(found) == 1:
		return judged(found[0])
	case l[r.reach].Kind == api.TokEnd:
		return wrongAt(l[r.reach].At, api.ErrEnd)
	}
	return wrongAt(l[r.reach].At, api.ErrForm)
}

// judged returns the result for a source without a wrong token.
func judged(p piece) result {
	c := contentsOf(p)
	switch p.rule {
	case "signature":
		return valid(result{trees: []api.Syn{treeOf(p)}}, api.CatSig)
	case "module":
		return valid(result{trees: []api.Syn{treeOf(p)}}, api.CatMod)
	}
	for i, name := range c.names {
		if slices.Contains(c.names[:i], name) {
			return result{e: api.ErrTwice}
		}
	}
	if len(c.names) > 16 || len(c.trees) > 1000 {
		return result{e: api.ErrFull}
	}
	return valid(result{imports: c.names, trees: c.trees}, api.CatDecl)
}

func valid(r result, cat int) result {
	for _, t := range r.trees {
		if !syntax.Valid(cat, t) {
			return result{e: api.ErrFull}
		}
	}
	return r
}

// least returns the number of tokens of the shortest text of each rule.
var least = sync.OnceValue(func() map[string]int {
	m := map[string]int{}
	for name := range rules() {
		m[name] = 1 << 20
	}
	for range rules() {
		for name, f := range rules() {
			m[name] = shortest(f, m)
		}
	}
	return m
})

func shortest(f form, known map[string]int) int {
	switch f.kind {
	case '|':
		n := 1 << 20
		for _, p := range f.parts {
			n = min(n, shortest(p, known))
		}
		return n
	case ',':
		n := 0
		for _, p := range f.parts {
			n += shortest(p, known)
		}
		return n
	case '(':
		return shortest(f.parts[0], known)
	case '{', '[':
		return 0
	}
	if n, ok := known[f.word]; ok {
		return n
	}
	return 1
}

// writer makes texts of the grammar at random; left is the number of rules that it may still choose freely.
type writer struct {
	r    *rand.Rand
	left int
}

// text makes a text of a rule.
func (w *writer) text(rule string) piece {
	w.left--
	return piece{rule: rule, parts: w.parts(rules()[rule])}
}

func (w *writer) parts(f form) []piece {
	switch f.kind {
	case '|':
		return w.parts(w.alternative(f.parts))
	case ',':
		var l []piece
		for _, p := range f.parts {
			l = append(l, w.parts(p)...)
		}
		return l
	case '{':
		var l []piece
		for w.left > 0 && w.r.Intn(5) < 2 {
			l = append(l, w.parts(f.parts[0])...)
		}
		return l
	case '[':
		if w.left > 0 && w.r.Intn(2) == 0 {
			return w.parts(f.parts[0])
		}
		return nil
	case '(':
		return w.parts(f.parts[0])
	}
	if _, ok := rules()[f.word]; ok {
		return []piece{w.text(f.word)}
	}
	return []piece{{token: w.token(f.word)}}
}

// alternative chooses one of the shortest alternatives when nothing may be chosen freely any more.
func (w *writer) alternative(l []form) form {
	if w.left > 0 {
		return l[w.r.Intn(len(l))]
	}
	return slices.MinFunc(l, func(a, b form) int { return shortest(a, least()) - shortest(b, least()) })
}

func (w *writer) token(terminal string) api.Token {
	switch terminal {
	case "LOWER":
		return api.Token{Kind: api.TokLower, Text: w.pick("x", "y", "f_1", "mod2", "int")}
	case "UPPER":
		return api.Token{Kind: api.TokUpper, Text: w.pick("M", "S", "Nil", "C1", "Val", "End")}
	case "VAR":
		return api.Token{Kind: api.TokVar, Text: w.pick("'a", "'b", "'end")}
	case "NUMBER":
		return api.Token{Kind: api.TokInt, Text: w.pick("0", "7", "4503599627370496")}
	case "TEXT":
		return api.Token{Kind: api.TokText, Text: w.pick("", "(", "end", "a \"b\"\n\\")}
	}
	return word(strings.Trim(terminal, `"`))
}

func (w *writer) pick(l ...string) string { return l[w.r.Intn(len(l))] }

// flat returns the tokens of a text; around says of each part in it that may stand in parentheses how many are to be put around it.
func flat(p piece, around func() int) []api.Token {
	if p.rule == "" {
		return []api.Token{p.token}
	}
	n := 0
	switch p.rule {
	case "signature", "plain", "module", "applied", "simple", "type", "pattern", "expression":
		n = around()
	}
	l := slices.Repeat([]api.Token{word("(")}, n)
	for _, x := range p.parts {
		l = append(l, flat(x, around)...)
	}
	return append(l, slices.Repeat([]api.Token{word(")")}, n)...)
}

func none() int { return 0 }
