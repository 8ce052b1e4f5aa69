package show

import (
	"fmt"
	"math"
	"slices"
	"strings"
	"testing"

	"capstan/api"
	"capstan/lex"
	"capstan/parse"
	"capstan/tree"
)

func number(n int64, unit string) api.Term {
	return api.Term{Kind: api.KNum, N: n, Text: unit}
}

func name(text string) api.Term {
	return api.Term{Kind: api.KName, Text: text}
}

func of(kind int, parts ...api.Term) api.Term {
	return api.Term{Kind: kind, Parts: parts}
}

// over answers a window of the metric.
func over(kind int, metric string, seconds, rank int64) api.Term {
	return api.Term{Kind: kind, Text: metric, N: seconds, M: rank}
}

func cron(text string) api.Term {
	return api.Term{Kind: api.KCron, Text: text}
}

// brief answers the beginning of what x looks like.
func brief(x any) string {
	return fmt.Sprintf("%.300s", fmt.Sprint(x))
}

// shows wants the text of the expression, that it is read back, and that no bracket is too many.
func shows(t *testing.T, x api.Term, want string) {
	t.Helper()
	text, errno := Expr(x)
	if text != want || errno != api.OK {
		t.Errorf("Expr(%s) = %.300q, %d, wanted %.300q", brief(x), text, errno, want)
		return
	}
	readBack(t, x, text)
}

// readBack wants that the text is read as the expression, and as no other with a pair of brackets left out.
func readBack(t *testing.T, x api.Term, text string) {
	t.Helper()
	if read, at, errno := parse.Expr(text); errno != api.OK || !tree.Same(read, x) {
		t.Errorf("%.300q is read as %s, %d, %d, wanted %s", text, brief(read), at, errno, brief(x))
	}
	for _, less := range withoutAPair(t, text) {
		if read, _, errno := parse.Expr(less); errno == api.OK && tree.Same(read, x) {
			t.Errorf("%.300q says as much as %.300q", less, text)
		}
	}
}

// withoutAPair answers the text with each pair of brackets about a part left out, one pair at a time.
func withoutAPair(t *testing.T, text string) []string {
	t.Helper()
	tokens, at, errno := lex.Cut(text)
	if errno != api.OK {
		t.Errorf("%.300q: %d, %d", text, at, errno)
	}
	var list []string
	var open []int // of each open bracket its token's number
	for i, token := range tokens {
		if token.Kind != api.Sign {
			continue
		}
		switch token.Text {
		case "(", "{":
			open = append(open, i)
		case ")", "}":
			begin := open[len(open)-1]
			open = open[:len(open)-1]
			if aboutAPart(tokens, begin) {
				from := tokens[begin].At
				list = append(list, text[:from]+text[from+1:token.At]+text[token.At+1:])
			}
		}
	}
	return list
}

// aboutAPart answers whether the bracket stands about a part: else it is a call's or a ladder's.
func aboutAPart(tokens []api.Token, i int) bool {
	if tokens[i].Text == "{" {
		return false
	}
	if i == 0 || tokens[i-1].Kind != api.Word {
		return true
	}
	calls := strings.Fields("if min max either abs ceil floor sum avg low high count rank cron")
	return !slices.Contains(calls, tokens[i-1].Text)
}

func TestP14_1Examples(t *testing.T) {
	a, b, c := name("a"), name("b"), name("c")
	shows(t, of(api.KMul, of(api.KAdd, a, b), c), "(a + b) * c")
	shows(t, of(api.KSub, a, of(api.KSub, b, c)), "a - (b - c)")
	shows(t, of(api.KNeg, of(api.KNeg, a)), "-(-a)")
	shows(t, of(api.KNot, of(api.KLess, a, number(1000000, "s"))), "not (a < 1[s])")
	shows(t, of(api.KSub, a, of(api.KNeg, b)), "a - -b")
	shows(t, of(api.KLess, of(api.KLess, a, b), c), "(a < b) < c")
}

// alone answers of each kind of expression one, and its text.
func alone() map[int]struct {
	term api.Term
	text string
} {
	a, b, c := name("a"), name("b"), name("c")
	type pair = struct {
		term api.Term
		text string
	}
	return map[int]pair{
		api.KNum:      {number(1500000, "req/s"), "1.5[req/s]"},
		api.KName:     {name("cpu"), "cpu"},
		api.KTrue:     {of(api.KTrue), "true"},
		api.KFalse:    {of(api.KFalse), "false"},
		api.KReplicas: {of(api.KReplicas), "replicas"},
		api.KCron:     {cron("0 3 * * *"), `cron("0 3 * * *")`},
		api.KSum:      {over(api.KSum, "cpu", 60, 0), "sum(cpu, 1m)"},
		api.KAvg:      {over(api.KAvg, "cpu", 61, 0), "avg(cpu, 1m1s)"},
		api.KLow:      {over(api.KLow, "mem", 1, 0), "low(mem, 1s)"},
		api.KHigh:     {over(api.KHigh, "mem", 3600, 0), "high(mem, 1h)"},
		api.KCount:    {over(api.KCount, "é", 86400, 0), "count(é, 1d)"},
		api.KRank:     {over(api.KRank, "cpu", 300, 95000000), "rank(cpu, 5m, 95)"},
		api.KNeg:      {of(api.KNeg, a), "-a"},
		api.KNot:      {of(api.KNot, a), "not a"},
		api.KAbs:      {of(api.KAbs, a), "abs(a)"},
		api.KCeil:     {of(api.KCeil, a), "ceil(a)"},
		api.KFloor:    {of(api.KFloor, a), "floor(a)"},
		api.KAdd:      {of(api.KAdd, a, b), "a + b"},
		api.KSub:      {of(api.KSub, a, b), "a - b"},
		api.KMul:      {of(api.KMul, a, b), "a * b"},
		api.KDiv:      {of(api.KDiv, a, b), "a / b"},
		api.KLess:     {of(api.KLess, a, b), "a < b"},
		api.KLeq:      {of(api.KLeq, a, b), "a <= b"},
		api.KEq:       {of(api.KEq, a, b), "a = b"},
		api.KMore:     {of(api.KMore, a, b), "a > b"},
		api.KMeq:      {of(api.KMeq, a, b), "a >= b"},
		api.KAnd:      {of(api.KAnd, a, b), "a and b"},
		api.KOr:       {of(api.KOr, a, b), "a or b"},
		api.KMin:      {of(api.KMin, a, b), "min(a, b)"},
		api.KMax:      {of(api.KMax, a, b), "max(a, b)"},
		api.KEither:   {of(api.KEither, a, b), "either(a, b)"},
		api.KIf:       {of(api.KIf, a, b, c), "if(a, b, c)"},
	}
}

func TestP14_1EachKindAlone(t *testing.T) {
	if len(alone()) != 32 {
		t.Fatal(len(alone()))
	}
	for _, x := range alone() {
		shows(t, x.term, x.text)
	}
}

// levels are those of the kinds 1 to 32, as the chapter lists them.
var levels = [33]int{0, 7, 7, 7, 7, 7, 7, 7, 7, 7, 7, 7, 7, 6, 6, 7, 7, 7, 4, 4, 5, 5, 3, 3, 3, 3, 3, 2, 1, 7, 7, 7, 7}

// needs are what the parts of the kinds need, as the chapter lists it; of those that stand not here 0.
var needs = map[int][]int{
	api.KOr: {1, 2}, api.KAnd: {2, 3},
	api.KLess: {4, 4}, api.KLeq: {4, 4}, api.KEq: {4, 4}, api.KMore: {4, 4}, api.KMeq: {4, 4},
	api.KAdd: {4, 5}, api.KSub: {4, 5}, api.KMul: {5, 6}, api.KDiv: {5, 6}, api.KNeg: {7}, api.KNot: {7},
}

// patterns are the texts of the kinds that take parts, with a % for each of them.
var patterns = map[int]string{
	api.KNeg: "-%", api.KNot: "not %", api.KAbs: "abs(%)", api.KCeil: "ceil(%)", api.KFloor: "floor(%)",
	api.KAdd: "% + %", api.KSub: "% - %", api.KMul: "% * %", api.KDiv: "% / %",
	api.KLess: "% < %", api.KLeq: "% <= %", api.KEq: "% = %", api.KMore: "% > %", api.KMeq: "% >= %", api.KAnd: "% and %", api.KOr: "% or %",
	api.KMin: "min(%, %)", api.KMax: "max(%, %)", api.KEither: "either(%, %)", api.KIf: "if(%, %, %)",
}

// arity answers how many parts the kind takes.
func arity(kind int) int {
	return strings.Count(patterns[kind], "%")
}

// filled answers the pattern of the kind with the texts of its parts, in brackets where the chapter's levels ask for them.
func filled(kind int, partKinds []int, texts []string) string {
	told := patterns[kind]
	for i, text := range texts {
		if needs[kind] != nil && levels[partKinds[i]] < needs[kind][i] {
			text = "(" + text + ")"
		}
		told = strings.Replace(told, "%", text, 1)
	}
	return told
}

func TestP14_1EachKindAsEachPart(t *testing.T) {
	for outer := range patterns {
		for place := range arity(outer) {
			for inner, x := range alone() {
				parts, kinds, texts := []api.Term{}, []int{}, []string{}
				for i := range arity(outer) {
					part, kind, text := name("x"), api.KName, "x"
					if i == place {
						part, kind, text = x.term, inner, x.text
					}
					parts, kinds, texts = append(parts, part), append(kinds, kind), append(texts, text)
				}
				shows(t, of(outer, parts...), filled(outer, kinds, texts))
			}
		}
	}
}

func TestP14_1EachKindAsAllParts(t *testing.T) {
	list := alone()
	for outer := range patterns {
		for first, x := range list {
			for second, y := range list {
				parts, kinds, texts := []api.Term{x.term, y.term, x.term}, []int{first, second, first}, []string{x.text, y.text, x.text}
				count := arity(outer)
				shows(t, of(outer, parts[:count]...), filled(outer, kinds, texts[:count]))
			}
		}
	}
}

// thrice are kinds of each level, and those whose parts never need brackets.
var thrice = []int{api.KOr, api.KAnd, api.KLess, api.KMeq, api.KAdd, api.KSub, api.KMul, api.KDiv, api.KNeg, api.KNot, api.KAbs, api.KMin, api.KIf}

func TestP14_1PartsOfParts(t *testing.T) {
	list := alone()
	for _, outer := range thrice {
		for _, middle := range thrice {
			for _, inner := range thrice {
				for i := range arity(outer) {
					for j := range arity(middle) {
						x, text := put(middle, j, list[inner].term, inner, list[inner].text)
						x, text = put(outer, i, x, middle, text)
						shows(t, x, text)
					}
				}
			}
		}
	}
}

// put answers an expression of the kind with the part in that place and a name in each other one, and its text.
func put(kind, place int, part api.Term, partKind int, text string) (api.Term, string) {
	parts, kinds, texts := []api.Term{}, []int{}, []string{}
	for i := range arity(kind) {
		if i == place {
			parts, kinds, texts = append(parts, part), append(kinds, partKind), append(texts, text)
			continue
		}
		other := string(rune('p' + i))
		parts, kinds, texts = append(parts, name(other)), append(kinds, api.KName), append(texts, other)
	}
	return of(kind, parts...), filled(kind, kinds, texts)
}

func TestP14_1BracketsByHand(t *testing.T) {
	a, b, c, d := name("a"), name("b"), name("c"), name("d")
	one := number(1000000, "")
	shows(t, of(api.KSub, of(api.KSub, a, b), c), "a - b - c")
	shows(t, of(api.KAdd, a, of(api.KAdd, b, c)), "a + (b + c)")
	shows(t, of(api.KAdd, of(api.KMul, a, b), of(api.KDiv, c, d)), "a * b + c / d")
	shows(t, of(api.KMul, a, of(api.KMul, b, c)), "a * (b * c)")
	shows(t, of(api.KDiv, a, of(api.KMul, b, c)), "a / (b * c)")
	shows(t, of(api.KMul, of(api.KDiv, a, b), c), "a / b * c")
	shows(t, of(api.KMul, a, of(api.KNeg, b)), "a * -b")
	shows(t, of(api.KMul, of(api.KNeg, a), b), "-a * b")
	shows(t, of(api.KNeg, of(api.KMul, a, b)), "-(a * b)")
	shows(t, of(api.KNeg, of(api.KAbs, a)), "-abs(a)")
	shows(t, of(api.KNeg, of(api.KNot, a)), "-(not a)")
	shows(t, of(api.KNot, of(api.KNot, a)), "not (not a)")
	shows(t, of(api.KNot, of(api.KNeg, a)), "not (-a)")
	shows(t, of(api.KNot, of(api.KTrue)), "not true")
	shows(t, of(api.KOr, of(api.KOr, a, b), c), "a or b or c")
	shows(t, of(api.KOr, a, of(api.KOr, b, c)), "a or (b or c)")
	shows(t, of(api.KOr, of(api.KAnd, a, b), of(api.KAnd, c, d)), "a and b or c and d")
	shows(t, of(api.KAnd, a, of(api.KAnd, b, c)), "a and (b and c)")
	shows(t, of(api.KAnd, of(api.KLess, a, b), of(api.KNot, c)), "a < b and not c")
	shows(t, of(api.KAnd, of(api.KOr, a, b), of(api.KOr, c, d)), "(a or b) and (c or d)")
	shows(t, of(api.KEq, a, of(api.KEq, b, c)), "a = (b = c)")
	shows(t, of(api.KMore, of(api.KAnd, a, b), of(api.KAdd, c, d)), "(a and b) > c + d")
	shows(t, of(api.KAbs, of(api.KOr, a, b)), "abs(a or b)")
	shows(t, of(api.KIf, of(api.KOr, a, b), of(api.KLess, c, d), of(api.KNeg, one)), "if(a or b, c < d, -1)")
	shows(t, of(api.KEither, over(api.KAvg, "cpu", 60, 0), number(0, "")), "either(avg(cpu, 1m), 0)")
	shows(t, of(api.KMin, of(api.KMax, a, b), of(api.KMul, of(api.KAdd, a, b), c)), "min(max(a, b), (a + b) * c)")
	deep := of(api.KMul, of(api.KAdd, of(api.KMul, of(api.KAdd, a, b), c), d), a)
	shows(t, deep, "((a + b) * c + d) * a")
	shows(t, of(api.KNeg, of(api.KNeg, of(api.KNeg, one))), "-(-(-1))")
}

func TestP14_1Numbers(t *testing.T) {
	for n, text := range map[int64]string{
		0: "0", 1: "0.000001", 10: "0.00001", 100000: "0.1", 500000: "0.5", 999999: "0.999999", 1000000: "1", 1000001: "1.000001", 1500000: "1.5",
		42000000: "42", 100000000: "100", 120000000: "120", 1020304050: "1020.30405", math.MaxInt64: "9223372036854.775807",
		9223372036854000000: "9223372036854", 9223372036854700000: "9223372036854.7",
	} {
		for unit, told := range map[string]string{"": "", "s": "[s]", "req/s": "[req/s]", " ": "[ ]", "(": "[(]", "#": "[#]", "é^2": "[é^2]", "\t\r": "[\t\r]", strings.Repeat("\U0010ffff", 64): "[" + strings.Repeat("\U0010ffff", 64) + "]"} {
			x, text := number(n, unit), text+told
			shows(t, x, text)
			shows(t, of(api.KNeg, x), "-"+text)
			shows(t, of(api.KNeg, of(api.KNeg, x)), "-(-"+text+")")
			shows(t, of(api.KSub, x, of(api.KNeg, x)), text+" - -"+text)
			shows(t, of(api.KDiv, of(api.KNeg, x), x), "-"+text+" / "+text)
			shows(t, of(api.KNot, x), "not "+text)
			shows(t, of(api.KMin, x, of(api.KNeg, x)), "min("+text+", -"+text+")")
		}
	}
}

func TestP14_1Names(t *testing.T) {
	for _, text := range []string{"a", "_", "cpu_1", "é", "Or", "min1", "NOT", "policy_", "x2", strings.Repeat("é", 32), strings.Repeat("a", 32)} {
		shows(t, name(text), text)
		shows(t, of(api.KNeg, name(text)), "-"+text)
		shows(t, of(api.KNot, name(text)), "not "+text)
		shows(t, over(api.KSum, text, 5, 0), "sum("+text+", 5s)")
		shows(t, over(api.KRank, text, 5, 0), "rank("+text+", 5s, 0)")
	}
}

// spans are seconds and their texts.
var spans = map[int64]string{1: "1s", 59: "59s", 60: "1m", 61: "1m1s", 90: "1m30s", 3599: "59m59s", 3600: "1h", 3601: "1h1s", 5400: "1h30m", 86399: "23h59m59s", 86400: "1d", 86401: "1d1s", 90061: "1d1h1m1s", 604799: "6d23h59m59s", 604800: "7d"}

func TestP14_1Windows(t *testing.T) {
	words := map[int]string{api.KSum: "sum", api.KAvg: "avg", api.KLow: "low", api.KHigh: "high", api.KCount: "count"}
	for seconds, span := range spans {
		for kind, word := range words {
			shows(t, over(kind, "q", seconds, 0), word+"(q, "+span+")")
			shows(t, of(api.KNeg, over(kind, "q", seconds, 0)), "-"+word+"(q, "+span+")")
		}
		for rank, text := range map[int64]string{0: "0", 1: "0.000001", 500000: "0.5", 95000000: "95", 99900000: "99.9", 100000000: "100", 200000001: "200.000001", math.MaxInt64: "9223372036854.775807"} {
			shows(t, over(api.KRank, "q", seconds, rank), "rank(q, "+span+", "+text+")")
			shows(t, of(api.KMul, over(api.KRank, "q", seconds, rank), name("a")), "rank(q, "+span+", "+text+") * a")
		}
	}
}

func TestP14_1Crons(t *testing.T) {
	for _, text := range []string{"", " ", "x", "0 3 * * *", "*/15 8-18 * * 1-5", "é # ( or", "[s]", "((((", "]", "{", "\t", "\r", "no schedule", strings.Repeat("日", 64), strings.Repeat("\U0010ffff", 64)} {
		shows(t, cron(text), `cron("`+text+`")`)
		shows(t, of(api.KNot, cron(text)), `not cron("`+text+`")`)
		shows(t, of(api.KAnd, cron(text), cron(text)), `cron("`+text+`") and cron("`+text+`")`)
	}
}
