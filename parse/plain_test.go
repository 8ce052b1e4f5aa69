package parse

import (
	"regexp"
	"slices"
	"strconv"
	"strings"
	"testing"

	"capstan/api"
	"capstan/lex"
	"capstan/scan"
	"capstan/tree"
)

// grammarText is the grammar as the chapter has it.
const grammarText = `
    policy  = "policy" NAME ";" { item } "decide" action ";"
    item    = "metric" NAME [ UNIT ] ";"
            | "replicas" NUMBER ".." NUMBER [ "step" NUMBER ] ";"
            | "cooldown" ( "up" | "down" ) DURATION ";"
            | "let" NAME "=" expr ";"
            | "guard" expr "then" action ";"
    action  = "hold" | "to" expr | "by" expr
            | "ladder" expr "{" { bound ":" action "," } "else" ":" action "}"
    bound   = [ "-" ] NUMBER [ UNIT ]
    expr    = conj { "or" conj }
    conj    = rel { "and" rel }
    rel     = sum [ ( "<" | "<=" | "=" | ">" | ">=" ) sum ]
    sum     = prod { ( "+" | "-" ) prod }
    prod    = fac { ( "*" | "/" ) fac }
    fac     = [ "-" | "not" ] atom
    atom    = NUMBER [ UNIT ] | NAME | "true" | "false" | "replicas" | "(" expr ")"
            | "if" "(" expr "," expr "," expr ")"
            | ( "min" | "max" | "either" ) "(" expr "," expr ")"
            | ( "abs" | "ceil" | "floor" ) "(" expr ")"
            | ( "sum" | "avg" | "low" | "high" | "count" ) "(" NAME "," DURATION ")"
            | "rank" "(" NAME "," DURATION "," NUMBER ")"
            | "cron" "(" TEXT ")"
`

// rule is one body of a form. A symbol is a token's kind (NAME), a sign or word in quotation marks, or a form; what
// stood in brackets or braces is a form of its own, with a number for a name.
type rule struct {
	form    string
	symbols []string
}

// grammar is the rules of each form.
type grammar map[string][]*rule

// symbolForm cuts the grammar's text.
var symbolForm = regexp.MustCompile(`"[^"]+"|[A-Za-z]+ *=|[A-Za-z]+|[][(){}|]`)

func readGrammar() grammar {
	g := grammar{}
	symbols := symbolForm.FindAllString(grammarText, -1)
	for len(symbols) > 0 {
		name, _, _ := strings.Cut(strings.TrimSuffix(symbols[0], "="), " ")
		var bodies [][]string
		bodies, symbols = g.alternatives(symbols[1:])
		g.name(name, bodies)
	}
	return g
}

func (g grammar) name(form string, bodies [][]string) {
	for _, body := range bodies {
		g[form] = append(g[form], &rule{form, body})
	}
}

// alternatives reads bodies up to what ends them: a bracket, the next form's name, or the end.
func (g grammar) alternatives(symbols []string) (bodies [][]string, rest []string) {
	body := []string{}
	for ; len(symbols) > 0; symbols = symbols[1:] {
		switch symbol := symbols[0]; {
		case symbol == "|":
			bodies, body = append(bodies, body), []string{}
		case strings.Contains("([{", symbol):
			var inner [][]string
			inner, symbols = g.alternatives(symbols[1:])
			name := "#" + strconv.Itoa(len(g))
			if symbol == "{" {
				for i := range inner {
					inner[i] = append([]string{name}, inner[i]...)
				}
			}
			if symbol != "(" {
				inner = append(inner, nil)
			}
			g.name(name, inner)
			body = append(body, name)
		case strings.Contains(")]}", symbol), strings.HasSuffix(symbol, "=") && symbol[0] != '"':
			return append(bodies, body), symbols
		default:
			body = append(body, symbol)
		}
	}
	return append(bodies, body), nil
}

// state is how far a rule has been read, and behind how many tokens it began.
type state struct {
	rule        *rule
	done, began int
}

// next answers the symbol that is to be read; "", if all are.
func (x state) next() string {
	if x.done == len(x.rule.symbols) {
		return ""
	}
	return x.rule.symbols[x.done]
}

// chart is all that the tokens taken so far may be the beginning of (an Earley recogniser: it keeps all readings at
// once, chooses none, and so needs no thought about what may follow what).
type chart struct {
	g      grammar
	states [][]state
}

func newChart(g grammar, start string) *chart {
	c := &chart{g: g, states: [][]state{nil}}
	c.begin(start, 0)
	c.complete()
	return c
}

func (c *chart) add(x state) {
	last := len(c.states) - 1
	if !slices.Contains(c.states[last], x) {
		c.states[last] = append(c.states[last], x)
	}
}

func (c *chart) begin(form string, at int) {
	for _, rule := range c.g[form] {
		c.add(state{rule, 0, at})
	}
}

// complete adds to the last states all that follows from them.
func (c *chart) complete() {
	last := len(c.states) - 1
	for changed := true; changed; { // again and again, since a form may be empty
		before := len(c.states[last])
		for i := 0; i < len(c.states[last]); i++ {
			x := c.states[last][i]
			if symbol := x.next(); symbol != "" {
				c.begin(symbol, last)
				continue
			}
			for _, y := range c.states[x.began] {
				if y.next() == x.rule.form {
					y.done++
					c.add(y)
				}
			}
		}
		changed = len(c.states[last]) > before
	}
}

// fits answers whether the token is what the symbol stands for.
func fits(symbol string, token api.Token) bool {
	switch symbol {
	case "NAME":
		return token.Kind == api.Name
	case "NUMBER":
		return token.Kind == api.Number
	case "DURATION":
		return token.Kind == api.Duration
	case "TEXT":
		return token.Kind == api.Quoted
	case "UNIT":
		return token.Kind == api.Bracket
	}
	return (token.Kind == api.Sign || token.Kind == api.Word) && symbol == `"`+token.Text+`"`
}

// take answers whether the tokens taken and this one begin anything.
func (c *chart) take(token api.Token) bool {
	from := c.states[len(c.states)-1]
	c.states = append(c.states, nil)
	for _, x := range from {
		if fits(x.next(), token) {
			x.done++
			c.add(x)
		}
	}
	c.complete()
	return len(c.states[len(c.states)-1]) > 0
}

// whole answers whether the tokens taken are one of the form.
func (c *chart) whole(form string) bool {
	return slices.ContainsFunc(c.states[len(c.states)-1], func(x state) bool {
		return x.rule.form == form && x.began == 0 && x.next() == ""
	})
}

// pieceForm finds what has to be a token, or a rune that begins none, behind blanks and remarks.
var pieceForm = regexp.MustCompile(`\A(?:[ \t\n\r]|#[^\n]*)*((?:[a-zA-Z_\x{c0}-\x{d6}\x{d8}-\x{f6}\x{f8}-\x{24f}][a-zA-Z_\x{c0}-\x{d6}\x{d8}-\x{f6}\x{f8}-\x{24f}0-9]*)|` +
	`[0-9]+(?:\.[0-9]+)?(?:[a-zA-Z_\x{c0}-\x{d6}\x{d8}-\x{f6}\x{f8}-\x{24f}0-9]*)|"[^"\n]*"|\[[^\[\]"\n]*\]|\.\.|<=|>=|.|\z)`)

var chapter = readGrammar()

// plainRead is what is to be said of s as one of the form: its tokens, or its first fault.
func plainRead(s, form string) ([]api.Token, int, api.Errno) {
	if len(s) > 1048576 {
		return nil, 0, api.ErrLong
	}
	if _, at, errno := scan.Check(s); errno != api.OK {
		return nil, at, errno
	}
	c := newChart(chapter, form)
	var taken []api.Token
	open := 0
	for at := 0; ; {
		found := pieceForm.FindStringSubmatchIndex(s[at:])
		begin, end := at+found[2], at+found[3]
		if begin == len(s) {
			if !c.whole(form) {
				return nil, len(s), api.ErrSyntax
			}
			return taken, 0, api.OK
		}
		if len(taken) == 16384 {
			return nil, begin, api.ErrLarge
		}
		cut, _, errno := lex.Cut(s[begin:end])
		if errno != api.OK {
			return nil, begin, errno
		}
		token := cut[0]
		token.At = begin
		if !c.take(token) {
			return nil, begin, api.ErrSyntax
		}
		if token.Kind == api.Sign && strings.Contains("({", token.Text) {
			if open == 64 {
				return nil, begin, api.ErrDeep
			}
			open++
		}
		if token.Kind == api.Sign && strings.Contains(")}", token.Text) {
			open--
		}
		taken = append(taken, token)
		at = end
	}
}

// agrees holds Policy and Expr of s against the plain reading; it answers their errors.
func agrees(t *testing.T, s string) (api.Errno, api.Errno) {
	t.Helper()
	tokens, at, policyErrno := plainRead(s, "policy")
	var want api.Policy
	if policyErrno == api.OK {
		want = plainPolicy(tokens)
	}
	if p, a, e := Policy(s); !samePolicy(p, want) || a != at || e != policyErrno {
		t.Fatalf("Policy(%.400q) = %.300v, %d, %d, wanted %.300v, %d, %d", s, p, a, e, want, at, policyErrno)
	} else if e == api.OK && !tree.Policy(p) {
		t.Fatalf("Policy(%.400q) isn't formed", s)
	}
	tokens, at, exprErrno := plainRead(s, "expr")
	var term api.Term
	if exprErrno == api.OK {
		term = plainExpr(tokens)
	}
	if x, a, e := Expr(s); !same(x, term) || a != at || e != exprErrno {
		t.Fatalf("Expr(%.400q) = %.300v, %d, %d, wanted %.300v, %d, %d", s, x, a, e, term, at, exprErrno)
	} else if e == api.OK && !tree.Formed(x) {
		t.Fatalf("Expr(%.400q) isn't formed", s)
	}
	return policyErrno, exprErrno
}

// same is whether two terms are, their places too.
func same(a, b api.Term) bool {
	return a.At == b.At && a.Kind == b.Kind && a.Text == b.Text && a.N == b.N && a.M == b.M && slices.EqualFunc(a.Parts, b.Parts, same)
}

// samePolicy is whether two policies are, their places too.
func samePolicy(a, b api.Policy) bool {
	return a.Name == b.Name && slices.EqualFunc(a.Items, b.Items, func(a, b api.Item) bool {
		if !same(a.Term, b.Term) || !same(a.Then, b.Then) {
			return false
		}
		a.Term, a.Then, b.Term, b.Then = api.Term{}, api.Term{}, api.Term{}, api.Term{}
		return a.At == b.At && a.Kind == b.Kind && a.Name == b.Name && a.Unit == b.Unit && a.A == b.A && a.B == b.B && a.C == b.C
	})
}
