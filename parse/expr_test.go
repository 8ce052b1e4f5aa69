package parse

import (
	"strings"
	"testing"

	"capstan/api"
)

// reserved are the reserved words, as chapter 11 lists them.
const reserved = "policy metric replicas step cooldown up down let guard then decide hold to by ladder else or and not true false " +
	"if min max either abs ceil floor sum avg low high count rank cron"

// atoms are the reserved words with which an atom begins.
const atoms = "true false replicas if min max either abs ceil floor sum avg low high count rank cron"

func name(text string, at int) api.Term {
	return api.Term{Kind: api.KName, Text: text, At: at}
}

func num(n int64, unit string, at int) api.Term {
	return api.Term{Kind: api.KNum, N: n, Text: unit, At: at}
}

func of(kind, at int, parts ...api.Term) api.Term {
	return api.Term{Kind: kind, At: at, Parts: parts}
}

// moved answers t as it is read where that many bytes more stand ahead of it.
func moved(t api.Term, by int) api.Term {
	t.At += by
	parts := make([]api.Term, len(t.Parts))
	for i, part := range t.Parts {
		parts[i] = moved(part, by)
	}
	t.Parts = parts
	return t
}

// reads wants that the expression s is this term.
func reads(t *testing.T, s string, want api.Term) {
	t.Helper()
	if x, at, errno := Expr(s); !same(x, want) || at != 0 || errno != api.OK {
		t.Errorf("Expr(%.200q) = %.300v, %d, %d, wanted %.300v", s, x, at, errno, want)
	}
	if len(s) < 200 {
		agrees(t, s)
	}
}

// fails wants the error of the expression s, its place, and no term beside it.
func fails(t *testing.T, s string, at int, errno api.Errno) {
	t.Helper()
	if x, a, e := Expr(s); !same(x, api.Term{}) || a != at || e != errno {
		t.Errorf("Expr(%.200q) = %.300v, %d, %d, wanted %d, %d", s, x, a, e, at, errno)
	}
	if len(s) < 200 {
		agrees(t, s)
	}
}

func TestP13_2Examples(t *testing.T) {
	reads(t, "a + b * -2[s]", of(api.KAdd, 2, name("a", 0), of(api.KMul, 6, name("b", 4), of(api.KNeg, 8, num(2000000, "s", 9)))))
	reads(t, "a - b - c", of(api.KSub, 6, of(api.KSub, 2, name("a", 0), name("b", 4)), name("c", 8)))
	reads(t, "not (a < 1) or x", of(api.KOr, 12, of(api.KNot, 0, of(api.KLess, 7, name("a", 5), num(1000000, "", 9))), name("x", 15)))
	reads(t, "rank(cpu, 5m, 95)", api.Term{Kind: api.KRank, Text: "cpu", N: 300, M: 95000000})
	fails(t, "a +", 3, api.ErrSyntax)
	fails(t, "a + ", 4, api.ErrSyntax)
	fails(t, "a < b < c", 6, api.ErrSyntax)
	fails(t, "- - a", 2, api.ErrSyntax)
	fails(t, "a b", 2, api.ErrSyntax)
	fails(t, "a @", 2, api.ErrToken)
	fails(t, "+ @", 0, api.ErrSyntax)
	fails(t, "(a", 2, api.ErrSyntax)
	fails(t, strings.Repeat("(", 65), 64, api.ErrDeep)
	fails(t, "avg(cpu)", 7, api.ErrSyntax)
	fails(t, "", 0, api.ErrSyntax)
}

// oneOfEach answers an expression of each form of an atom, and its term.
func oneOfEach() map[string]api.Term {
	a, b, c := name("a", 0), name("b", 0), name("c", 0)
	list := map[string]api.Term{
		"7":                      num(7000000, "", 0),
		"0":                      num(0, "", 0),
		"9223372036854.775807":   num(1<<63-1, "", 0),
		"1.5[req/s]":             num(1500000, "req/s", 0),
		"1.5 [ é # ]":            num(1500000, " é # ", 0),
		"3[]":                    num(3000000, "", 0),
		"cpu_1":                  name("cpu_1", 0),
		"été":                    name("été", 0),
		"true":                   of(api.KTrue, 0),
		"false":                  of(api.KFalse, 0),
		"replicas":               of(api.KReplicas, 0),
		"(a)":                    moved(a, 1),
		"(((a)))":                moved(a, 3),
		"if(a,b,c)":              of(api.KIf, 0, moved(a, 3), moved(b, 5), moved(c, 7)),
		"sum(a,1s)":              {Kind: api.KSum, Text: "a", N: 1},
		"avg(b,1h30m)":           {Kind: api.KAvg, Text: "b", N: 5400},
		"low(c,7d)":              {Kind: api.KLow, Text: "c", N: 604800},
		"high(a,90s)":            {Kind: api.KHigh, Text: "a", N: 90},
		"count(a,1m)":            {Kind: api.KCount, Text: "a", N: 60},
		"rank(a,1m,0)":           {Kind: api.KRank, Text: "a", N: 60},
		"rank(a,1m,99.999999)":   {Kind: api.KRank, Text: "a", N: 60, M: 99999999},
		`cron("0 3 * * *")`:      {Kind: api.KCron, Text: "0 3 * * *"},
		`cron("")`:               {Kind: api.KCron},
		`cron("[é # ( } ; or]")`: {Kind: api.KCron, Text: "[é # ( } ; or]"},
	}
	for word, kind := range map[string]int{"min": api.KMin, "max": api.KMax, "either": api.KEither} {
		list[word+"(a,b)"] = of(kind, 0, moved(a, len(word)+1), moved(b, len(word)+3))
	}
	for word, kind := range map[string]int{"abs": api.KAbs, "ceil": api.KCeil, "floor": api.KFloor} {
		list[word+"(a)"] = of(kind, 0, moved(a, len(word)+1))
	}
	return list
}

func TestP13_2EachAtomAlone(t *testing.T) {
	for s, want := range oneOfEach() {
		reads(t, s, want)
		reads(t, s+" ", want)
		reads(t, "# é\n "+s, moved(want, 6))
		reads(t, "("+s+")", moved(want, 1))
		reads(t, "-"+s, of(api.KNeg, 0, moved(want, 1)))
		reads(t, "not "+s, of(api.KNot, 0, moved(want, 4)))
	}
}

func TestP13_2EachAtomWithinOthers(t *testing.T) {
	for s, want := range oneOfEach() {
		n := len(s)
		reads(t, s+" + x", of(api.KAdd, n+1, want, name("x", n+3)))
		reads(t, "x * "+s, of(api.KMul, 2, name("x", 0), moved(want, 4)))
		reads(t, "x < "+s+" and y", of(api.KAnd, n+5, of(api.KLess, 2, name("x", 0), moved(want, 4)), name("y", n+9)))
		reads(t, "abs("+s+")", of(api.KAbs, 0, moved(want, 4)))
		reads(t, "max("+s+","+s+")", of(api.KMax, 0, moved(want, 4), moved(want, n+5)))
		reads(t, "if("+s+","+s+","+s+")", of(api.KIf, 0, moved(want, 3), moved(want, n+4), moved(want, 2*n+5)))
		for other, inner := range oneOfEach() {
			reads(t, s+"-"+other, of(api.KSub, n, want, moved(inner, n+1)))
		}
	}
}

// binary is a sign or word between two parts, its level and its kind.
type binary struct {
	text  string
	level int
	kind  int
}

// allSigns answers all that may stand between two parts, those that bind more with a higher level.
func allSigns() []binary {
	return []binary{
		{"or", 1, api.KOr}, {"and", 2, api.KAnd},
		{"<", 3, api.KLess}, {"<=", 3, api.KLeq}, {"=", 3, api.KEq}, {">", 3, api.KMore}, {">=", 3, api.KMeq},
		{"+", 4, api.KAdd}, {"-", 4, api.KSub}, {"*", 5, api.KMul}, {"/", 5, api.KDiv},
	}
}

func TestP13_2EachSign(t *testing.T) {
	for _, x := range allSigns() {
		n := len(x.text)
		reads(t, "a "+x.text+" b", of(x.kind, 2, name("a", 0), name("b", n+3)))
		reads(t, "(a)"+x.text+"(b)", of(x.kind, 3, name("a", 1), name("b", n+4)))
		reads(t, "-a "+x.text+" not b", of(x.kind, 3, of(api.KNeg, 0, name("a", 1)), of(api.KNot, n+4, name("b", n+8))))
		fails(t, "a "+x.text, n+2, api.ErrSyntax)
		fails(t, "a "+x.text+" ", n+3, api.ErrSyntax)
		fails(t, "a "+x.text+" )", n+3, api.ErrSyntax)
		fails(t, "a b "+x.text+" c", 2, api.ErrSyntax)
		fails(t, "(a "+x.text+") b", n+3, api.ErrSyntax)
		if x.text != "-" {
			fails(t, x.text+" b", 0, api.ErrSyntax)
			fails(t, "("+x.text+" b)", 1, api.ErrSyntax)
		}
	}
}

func TestP13_2EachPairOfSigns(t *testing.T) {
	for _, x := range allSigns() {
		for _, y := range allSigns() {
			s := "a " + x.text + " b " + y.text + " c"
			a, b, c := name("a", 0), name("b", len(x.text)+3), name("c", len(s)-1)
			second := len(x.text) + 5
			left := of(y.kind, second, of(x.kind, 2, a, b), c)
			right := of(x.kind, 2, a, of(y.kind, second, b, c))
			switch {
			case x.level == 3 && y.level == 3:
				fails(t, s, second, api.ErrSyntax)
				fails(t, "("+s+")", second+1, api.ErrSyntax)
				fails(t, "min(x, "+s+")", second+7, api.ErrSyntax)
			case x.level >= y.level:
				reads(t, s, left)
			default:
				reads(t, s, right)
			}
			// In brackets it is as they say, whatever binds more.
			reads(t, "(a "+x.text+" b) "+y.text+" c", of(y.kind, second+2, of(x.kind, 3, moved(a, 1), moved(b, 1)), moved(c, 2)))
			reads(t, "a "+x.text+" (b "+y.text+" c)", of(x.kind, 2, a, of(y.kind, second+1, moved(b, 1), moved(c, 1))))
			if y.text != "-" { // two signs, and nothing between them
				fails(t, "a "+x.text+" "+y.text+" c", len(x.text)+3, api.ErrSyntax)
			}
		}
	}
}

func TestP13_2ThreeSigns(t *testing.T) {
	for _, x := range allSigns() {
		for _, y := range allSigns() {
			for _, z := range allSigns() {
				agrees(t, "a "+x.text+" b "+y.text+" c "+z.text+" d")
				agrees(t, "-a"+x.text+" (b "+y.text+" -c) "+z.text+" not d")
			}
		}
	}
}

func TestP13_2AllLevelsAtOnce(t *testing.T) {
	reads(t, "a or b and c < d + e * f", of(api.KOr, 2, name("a", 0), of(api.KAnd, 7, name("b", 5),
		of(api.KLess, 13, name("c", 11), of(api.KAdd, 17, name("d", 15), of(api.KMul, 21, name("e", 19), name("f", 23)))))))
	reads(t, "a * b + c < d and e or f", of(api.KOr, 20, of(api.KAnd, 14,
		of(api.KLess, 10, of(api.KAdd, 6, of(api.KMul, 2, name("a", 0), name("b", 4)), name("c", 8)), name("d", 12)), name("e", 18)), name("f", 23)))
	reads(t, "a<b and c<d or e>=f", of(api.KOr, 12, of(api.KAnd, 4, of(api.KLess, 1, name("a", 0), name("b", 2)), of(api.KLess, 9, name("c", 8), name("d", 10))),
		of(api.KMeq, 16, name("e", 15), name("f", 18))))
}

func TestP13_2SignsOfOneLevelFromTheLeft(t *testing.T) {
	for _, level := range [][]binary{allSigns()[:1], allSigns()[1:2], allSigns()[7:9], allSigns()[9:]} {
		s, want := "a", name("a", 0)
		for i := range 200 {
			x := level[i*i%7%len(level)]
			s += " " + x.text + " b"
			want = of(x.kind, len(s)-2-len(x.text), want, name("b", len(s)-1))
			reads(t, s, want)
		}
	}
}

func TestP13_2SignsAheadOfAnAtom(t *testing.T) {
	reads(t, "-a", of(api.KNeg, 0, name("a", 1)))
	reads(t, " - 1[s]", of(api.KNeg, 1, num(1000000, "s", 3)))
	reads(t, "not a", of(api.KNot, 0, name("a", 4)))
	reads(t, "not(a)", of(api.KNot, 0, name("a", 4)))
	reads(t, "-(-a)", of(api.KNeg, 0, of(api.KNeg, 2, name("a", 3))))
	reads(t, "not (not a)", of(api.KNot, 0, of(api.KNot, 5, name("a", 9))))
	reads(t, "not (-a)", of(api.KNot, 0, of(api.KNeg, 5, name("a", 6))))
	reads(t, "-(not a)", of(api.KNeg, 0, of(api.KNot, 2, name("a", 6))))
	reads(t, "a--b", of(api.KSub, 1, name("a", 0), of(api.KNeg, 2, name("b", 3))))
	reads(t, "-a-b", of(api.KSub, 2, of(api.KNeg, 0, name("a", 1)), name("b", 3)))
	reads(t, "-a*b", of(api.KMul, 2, of(api.KNeg, 0, name("a", 1)), name("b", 3)))
	reads(t, "not a = b", of(api.KEq, 6, of(api.KNot, 0, name("a", 4)), name("b", 8)))
	reads(t, "-(a+b)", of(api.KNeg, 0, of(api.KAdd, 3, name("a", 2), name("b", 4))))
	for _, x := range []string{"-", "not "} {
		for _, y := range []string{"-", "not "} {
			fails(t, x+y+"a", len(x), api.ErrSyntax)
			fails(t, "b * "+x+y+"a", len(x)+4, api.ErrSyntax)
			fails(t, "abs("+x+y+"a)", len(x)+4, api.ErrSyntax)
			fails(t, x+"("+y+x+"a)", len(x+y)+1, api.ErrSyntax)
		}
		fails(t, x, len(x), api.ErrSyntax)
		fails(t, x+")", len(x), api.ErrSyntax)
		fails(t, x+"5m", len(x), api.ErrSyntax)
	}
	fails(t, "+a", 0, api.ErrSyntax)
	fails(t, "a not b", 2, api.ErrSyntax)
	fails(t, "a - - - b", 6, api.ErrSyntax)
	fails(t, "--", 1, api.ErrSyntax)
}

func TestP13_2Brackets(t *testing.T) {
	reads(t, "(a + b) * c", of(api.KMul, 8, of(api.KAdd, 3, name("a", 1), name("b", 5)), name("c", 10)))
	reads(t, "a - (b - c)", of(api.KSub, 2, name("a", 0), of(api.KSub, 7, name("b", 5), name("c", 9))))
	reads(t, "(a < b) < c", of(api.KLess, 8, of(api.KLess, 3, name("a", 1), name("b", 5)), name("c", 10)))
	fails(t, "((1)[s]", 4, api.ErrSyntax)
	fails(t, "()", 1, api.ErrSyntax)
	fails(t, ")", 0, api.ErrSyntax)
	fails(t, "a)", 1, api.ErrSyntax)
	fails(t, "(a))", 3, api.ErrSyntax)
	fails(t, "((a)", 4, api.ErrSyntax)
	fails(t, "(a b)", 3, api.ErrSyntax)
	fails(t, "(a,b)", 2, api.ErrSyntax)
	fails(t, "(a}", 2, api.ErrSyntax)
	fails(t, "{a}", 0, api.ErrSyntax)
	fails(t, "[a]", 0, api.ErrSyntax)
	fails(t, "a(b)", 1, api.ErrSyntax)
	fails(t, "1(b)", 1, api.ErrSyntax)
	fails(t, "(a)(b)", 3, api.ErrSyntax)
}

func TestP13_2Numbers(t *testing.T) {
	reads(t, "1 # of\n [s]", num(1000000, "s", 0))
	reads(t, "1[s]/1[ms]", of(api.KDiv, 4, num(1000000, "s", 0), num(1000000, "ms", 5)))
	fails(t, "a[s]", 1, api.ErrSyntax)
	fails(t, "true[s]", 4, api.ErrSyntax)
	fails(t, "(1)[s]", 3, api.ErrSyntax)
	fails(t, "1[s][s]", 4, api.ErrSyntax)
	fails(t, "[s]1", 0, api.ErrSyntax)
	fails(t, "5m", 0, api.ErrSyntax)
	fails(t, "a + 5m", 4, api.ErrSyntax)
	fails(t, "5m[s]", 0, api.ErrSyntax)
	fails(t, "2..3", 1, api.ErrSyntax)
	fails(t, "1 2", 2, api.ErrSyntax)
	fails(t, `"1"`, 0, api.ErrSyntax)
	fails(t, "01", 0, api.ErrNumber)
	fails(t, "1.5x", 0, api.ErrNumber)
	fails(t, "9223372036854.775808", 0, api.ErrNumber)
}

func TestP13_2CallsOfExpressions(t *testing.T) {
	for word, count := range map[string]int{"if": 3, "min": 2, "max": 2, "either": 2, "abs": 1, "ceil": 1, "floor": 1} {
		n := len(word)
		fails(t, word, n, api.ErrSyntax)
		fails(t, word+" a", n+1, api.ErrSyntax)
		fails(t, word+"[s]", n, api.ErrSyntax)
		fails(t, word+"{a}", n, api.ErrSyntax)
		fails(t, word+"(", n+1, api.ErrSyntax)
		fails(t, word+"()", n+1, api.ErrSyntax)
		fails(t, word+"(,a)", n+1, api.ErrSyntax)
		fails(t, word+"(5m)", n+1, api.ErrSyntax)
		fails(t, word+"(a b)", n+3, api.ErrSyntax)
		for parts := 1; parts <= 5; parts++ {
			s := word + "(" + strings.Repeat("a,", parts-1) + "a)"
			switch {
			case parts < count:
				fails(t, s, len(s)-1, api.ErrSyntax) // a , is to stand in the place of the )
			case parts > count:
				fails(t, s, n+2*count, api.ErrSyntax) // and a ) in that of the ,
			default:
				x, at, errno := Expr(s)
				if len(x.Parts) != count || at != 0 || errno != api.OK {
					t.Error(s, x, at, errno)
				}
				fails(t, strings.TrimSuffix(s, ")"), len(s)-1, api.ErrSyntax)
				fails(t, strings.TrimSuffix(s, ")")+",)", len(s)-1, api.ErrSyntax)
				fails(t, strings.TrimSuffix(s, "a)")+")", len(s)-2, api.ErrSyntax)
				fails(t, s+")", len(s), api.ErrSyntax)
				fails(t, s+"[s]", len(s), api.ErrSyntax)
				fails(t, s+"(a)", len(s), api.ErrSyntax)
				fails(t, strings.TrimSuffix(s, ")")+"}", len(s)-1, api.ErrSyntax)
			}
		}
	}
}

func TestP13_2CallsOfWindows(t *testing.T) {
	for _, word := range []string{"sum", "avg", "low", "high", "count", "rank"} {
		n := len(word)
		last := ""
		if word == "rank" {
			last = ",5"
		}
		right := word + "(a,1m" + last + ")"
		if x, at, errno := Expr(right); x.Text != "a" || x.N != 60 || at != 0 || errno != api.OK {
			t.Error(right, x, at, errno)
		}
		fails(t, word, n, api.ErrSyntax)
		fails(t, word+" a", n+1, api.ErrSyntax)
		fails(t, word+"()", n+1, api.ErrSyntax)
		fails(t, word+"(a", n+2, api.ErrSyntax)
		fails(t, word+"(a)", n+2, api.ErrSyntax)
		fails(t, word+"(a,)", n+3, api.ErrSyntax)
		fails(t, word+"(a 1m)", n+3, api.ErrSyntax)
		fails(t, word+"(1m,a)", n+1, api.ErrSyntax)
		fails(t, word+"(1,1m"+last+")", n+1, api.ErrSyntax)
		fails(t, word+"((a),1m"+last+")", n+1, api.ErrSyntax)
		fails(t, word+"(a+b,1m"+last+")", n+2, api.ErrSyntax)
		fails(t, word+"(-a,1m"+last+")", n+1, api.ErrSyntax)
		fails(t, word+`("a",1m`+last+")", n+1, api.ErrSyntax)
		fails(t, word+"(a,60"+last+")", n+3, api.ErrSyntax)
		fails(t, word+"(a,-1m"+last+")", n+3, api.ErrSyntax)
		fails(t, word+"(a,b"+last+")", n+3, api.ErrSyntax)
		fails(t, word+"(a,1m"+last+",5)", n+5+len(last), api.ErrSyntax)
		fails(t, word+"(a,1m"+last+"[s])", n+5+len(last), api.ErrSyntax)
		fails(t, word+"(a,1m"+last, n+5+len(last), api.ErrSyntax)
		fails(t, right+")", len(right), api.ErrSyntax)
		for _, reserved := range strings.Fields(reserved) {
			fails(t, word+"("+reserved+",1m"+last+")", n+1, api.ErrSyntax)
		}
	}
	fails(t, "rank(a,1m)", 9, api.ErrSyntax)
	fails(t, "rank(a,1m,)", 10, api.ErrSyntax)
	fails(t, "rank(a,1m,-5)", 10, api.ErrSyntax)
	fails(t, "rank(a,1m,b)", 10, api.ErrSyntax)
	fails(t, "rank(a,1m,5m)", 10, api.ErrSyntax)
	fails(t, "rank(a,5,1m)", 7, api.ErrSyntax)
	fails(t, "rank(a,8d,5)", 7, api.ErrNumber)
}

func TestP13_2CallsOfCron(t *testing.T) {
	reads(t, "cron ( \"x y\" )", api.Term{Kind: api.KCron, Text: "x y"})
	fails(t, "cron", 4, api.ErrSyntax)
	fails(t, `cron "a"`, 5, api.ErrSyntax)
	fails(t, "cron()", 5, api.ErrSyntax)
	fails(t, "cron(a)", 5, api.ErrSyntax)
	fails(t, "cron(5)", 5, api.ErrSyntax)
	fails(t, "cron([a])", 5, api.ErrSyntax)
	fails(t, `cron("a","b")`, 8, api.ErrSyntax)
	fails(t, `cron("a""b")`, 8, api.ErrSyntax)
	fails(t, `cron("a"`, 8, api.ErrSyntax)
	fails(t, `cron("a)`, 5, api.ErrToken)
	fails(t, `cron(("a"))`, 5, api.ErrSyntax)
	fails(t, `"a"`, 0, api.ErrSyntax)
}

func TestP13_2ReservedWords(t *testing.T) {
	for _, word := range strings.Fields(reserved) {
		switch {
		case word == "not":
			fails(t, word, 3, api.ErrSyntax)
		case word == "true" || word == "false" || word == "replicas":
			reads(t, word, of(map[string]int{"true": api.KTrue, "false": api.KFalse, "replicas": api.KReplicas}[word], 0))
			fails(t, word+"(a)", len(word), api.ErrSyntax)
		case strings.Contains(" "+atoms+" ", " "+word+" "):
			fails(t, word, len(word), api.ErrSyntax)
			fails(t, "1 + "+word+" + 1", len(word)+5, api.ErrSyntax)
		default:
			fails(t, word, 0, api.ErrSyntax)
			fails(t, "1 + "+word, 4, api.ErrSyntax)
			fails(t, "("+word+")", 1, api.ErrSyntax)
			fails(t, "min(a, "+word+")", 7, api.ErrSyntax)
		}
		if word != "or" && word != "and" {
			fails(t, "a "+word+" b", 2, api.ErrSyntax)
		}
		reads(t, word+"1", name(word+"1", 0))
		reads(t, strings.ToUpper(word), name(strings.ToUpper(word), 0))
	}
}

func TestP13_2SignsInQuotesAreNone(t *testing.T) {
	for _, x := range allSigns() {
		fails(t, `a "`+x.text+`" b`, 2, api.ErrSyntax)
		fails(t, `a [`+x.text+`] b`, 2, api.ErrSyntax)
		fails(t, `1 [`+x.text+`] b`, len(x.text)+5, api.ErrSyntax)
	}
	for _, s := range []string{`"-" a`, `"not" a`, `"(" a)`, `"true"`, `[true]`, `[not] a`, `"replicas"`, `"min"(a,b)`, `[(]a)`, `"abs"(a)`, `"cron"("a")`, `"sum"(a,1m)`, `[sum](a,1m)`} {
		fails(t, s, 0, api.ErrSyntax)
	}
	for _, s := range []string{`(a")"`, `(a[)]`} {
		fails(t, s, 2, api.ErrSyntax)
	}
	fails(t, `min(a","b)`, 5, api.ErrSyntax)
	fails(t, `min"("a,b)`, 3, api.ErrSyntax)
}

func TestP13_2SomethingBehindTheEnd(t *testing.T) {
	for s := range oneOfEach() {
		for _, more := range []string{"a", "true", "not a", ")", ",", ";", ":", "=", "{", "}", "..", "5m", `"x"`, "then", "else", "if(a,b,c)"} {
			if more == "=" { // more may follow a =, but not its end
				fails(t, s+" =", len(s)+2, api.ErrSyntax)
				continue
			}
			fails(t, s+" "+more, len(s)+1, api.ErrSyntax)
			fails(t, s+" "+more+" @", len(s)+1, api.ErrSyntax)
		}
		fails(t, s+" @", len(s)+1, api.ErrToken)
		fails(t, s+" 1x", len(s)+1, api.ErrNumber)
	}
	fails(t, "policy p; decide hold;", 0, api.ErrSyntax)
	fails(t, "hold", 0, api.ErrSyntax)
	fails(t, "to 1", 0, api.ErrSyntax)
}
