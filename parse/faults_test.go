package parse

import (
	"errors"
	"go/parser"
	"go/token"
	"path/filepath"
	"slices"
	"strconv"
	"strings"
	"testing"
	"unsafe"

	"capstan/api"
	"capstan/lex"
	"capstan/tree"
)

// bothFail wants the error and its place of s, as a policy and as an expression.
func bothFail(t *testing.T, s string, at int, errno api.Errno) {
	t.Helper()
	fails(t, s, at, errno)
	failsPolicy(t, s, at, errno)
}

func TestP13_1And2TextsThatAreTooLong(t *testing.T) {
	blanks := strings.Repeat(" ", api.MaxSource)
	reads(t, "a"+blanks[1:], name("a", 0))
	reads(t, blanks[1:]+"a", name("a", api.MaxSource-1))
	readsPolicy(t, blanks[21:]+"policy p;decide hold;", "p", hold(api.MaxSource-12))
	for _, s := range []string{"a" + blanks, blanks + "a", blanks + "@", "@" + blanks, blanks + "\xff", "\xff" + blanks, strings.Repeat("(", api.MaxSource+1), "policy p;decide hold;" + blanks, strings.Repeat("a+", api.MaxSource)} {
		bothFail(t, s, 0, api.ErrLong)
	}
	bothFail(t, blanks, api.MaxSource, api.ErrSyntax)
}

func TestP13_1And2NoTexts(t *testing.T) {
	for bad, errno := range map[string]api.Errno{"\xff": api.ErrUtf8, "\xc3": api.ErrUtf8, "\xed\xa0\x80": api.ErrUtf8, "\x00": api.ErrRune, "\x7f": api.ErrRune, "\u0085": api.ErrRune, "\ufeff": api.ErrRune} {
		for _, s := range []string{"", "a", "policy p; decide hold;", "+ ", "@ ", "01 ", "a b @ ", "# ", strings.Repeat("(", 70), "policy min; ", `"`, "cron(\"", "1[", "é"} {
			bothFail(t, s+bad, len(s), errno)
			bothFail(t, s+bad+" @ ) + \xfe\x01", len(s), errno)
		}
		bothFail(t, strings.Repeat(";", api.MaxTokens+5)+bad, api.MaxTokens+5, errno)
	}
	reads(t, "a # \ufffd\u00a0\U0010ffff", name("a", 0))
}

// tokenFaults are texts with a token's fault at their beginning.
func tokenFaults() map[string]api.Errno {
	return map[string]api.Errno{"@": api.ErrToken, ".": api.ErrToken, "日": api.ErrToken, "]": api.ErrToken, `"`: api.ErrToken, "[": api.ErrToken, "[a": api.ErrToken, strings.Repeat("é", 33): api.ErrToken,
		`"` + strings.Repeat("a", 65) + `"`: api.ErrToken, "01": api.ErrNumber, "1x": api.ErrNumber, "8d": api.ErrNumber, "1.0000000": api.ErrNumber, "×": api.ErrToken, "\u00a0": api.ErrToken}
}

func TestP13_1And2WhichFaultComesFirst(t *testing.T) {
	for bad, errno := range tokenFaults() {
		bothFail(t, bad, 0, errno)
		bothFail(t, bad+" +", 0, errno)
		bothFail(t, " \n"+bad+" @ 01", 2, errno)
		// Behind what may stand there: at a token that is wanted, and at one that isn't.
		for _, s := range []string{"a ", "a + ", "(", "(a ", "min(a, ", "avg(", "avg(cpu ", "avg(cpu, ", "rank(a, 1m, ", "cron(", "not ", "- ", "1 ", "1[s] ", "true ", "if(a,b ", "a < b ", "a<b and ", "replicas ", "abs ", strings.Repeat("(", 64)} {
			fails(t, s+bad, len(s), errno)
			fails(t, s+bad+" ) ) @", len(s), errno)
			fails(t, s+"# \n "+bad, len(s)+4, errno)
		}
		for _, s := range []string{"policy ", "policy p ", "policy p; ", "policy p; metric ", "policy p; metric a ", "policy p; replicas ", "policy p; replicas 1 ", "policy p; replicas 1..9 ", "policy p; cooldown ", "policy p; cooldown up ",
			"policy p; let ", "policy p; let x ", "policy p; let x = ", "policy p; guard ", "policy p; guard a ", "policy p; guard a then ", "policy p; decide ", "policy p; decide hold ", "policy p; decide hold; ", "policy p; decide ladder a { ", "policy p; decide ladder a { -",
			"policy p; decide ladder a { 1 ", "policy p; decide ladder a { 1: hold ", "policy p; decide ladder a { 1: hold, else ", "policy p; decide ladder a { else: hold } "} {
			failsPolicy(t, s+bad, len(s), errno)
			failsPolicy(t, s+bad+" } hold;", len(s), errno)
		}
		// Behind a fault of the grammar it isn't told any more.
		for s, at := range map[string]int{"+ ": 0, "a b ": 2, "a + + ": 4, "(a ; ": 3, "a < b < ": 6, "- - ": 2, "avg(cpu) ": 7, "a ) ": 2, "min(a) ": 5, "to ": 0, "a [s] ": 2, "5m ": 0} {
			fails(t, s+bad, at, api.ErrSyntax)
			fails(t, s+"a b c "+bad, at, api.ErrSyntax)
		}
		for s, at := range map[string]int{"a ": 0, "policy min ": 7, "policy p q ": 9, "policy p; metric 1 ": 17, "policy p; cooldown 5s ": 19, "policy p; decide a ": 17, "policy p; decide hold; x ": 23, "policy p; decide hold hold ": 22} {
			failsPolicy(t, s+bad, at, api.ErrSyntax)
		}
		fails(t, strings.Repeat("(", 65)+bad, 64, api.ErrDeep)
		fails(t, strings.Repeat("(", 64)+bad+"(", 64, errno)
	}
	// No token reaches over what stands at the fault.
	fails(t, "1.", 1, api.ErrToken)
	fails(t, "a.", 1, api.ErrToken)
	fails(t, "a b.", 2, api.ErrSyntax)
	fails(t, "5m.", 0, api.ErrSyntax)
	fails(t, "1...", 1, api.ErrSyntax)
	fails(t, `a"`, 1, api.ErrToken)
	fails(t, `a"b`, 1, api.ErrToken)
	fails(t, `1[s]"`, 4, api.ErrToken)
	fails(t, `cron("a""`, 8, api.ErrToken)
}

// opener is a form that opens a bracket about a part; deep is how many bytes of it stand ahead of the bracket.
type opener struct {
	head, tail string
	deep       int
}

// openers are all forms that open a ( about an expression, with the part in each place.
func openers() []opener {
	list := []opener{{"(", ")", 0}, {"not (", ")", 4}, {"-(", ")", 1}, {"a+(", ")", 2}, {"(", ")*a", 0}, {"if(", ",b,c)", 2}, {"if(a,", ",c)", 2}, {"if(a,b,", ")", 2}}
	for _, word := range []string{"min", "max", "either"} {
		list = append(list, opener{word + "(", ",b)", len(word)}, opener{word + "(a,", ")", len(word)})
	}
	for _, word := range []string{"abs", "ceil", "floor"} {
		list = append(list, opener{word + "(", ")", len(word)})
	}
	return list
}

// nested answers the text of that many openers about the inner text, and where that begins.
func nested(list []opener, count int, inner string) (string, int) {
	head, tail := "", ""
	for i := range count {
		x := list[i%len(list)]
		head, tail = head+x.head, x.tail+tail
	}
	return head + inner + tail, len(head)
}

// taken wants that the expression is read, and is formed.
func taken(t *testing.T, s string) {
	t.Helper()
	if x, at, errno := Expr(s); at != 0 || errno != api.OK || !tree.Formed(x) {
		t.Errorf("Expr(%.200q): %d, %d", s, at, errno)
	}
}

// takenPolicy wants that the policy is read, and is formed.
func takenPolicy(t *testing.T, s string) {
	t.Helper()
	if p, at, errno := Policy(s); at != 0 || errno != api.OK || !tree.Policy(p) {
		t.Errorf("Policy(%.200q): %d, %d", s, at, errno)
	}
}

func TestP13_2Depth(t *testing.T) {
	lists := [][]opener{openers()}
	for _, x := range openers() {
		lists = append(lists, []opener{x})
	}
	for _, list := range lists {
		for _, count := range []int{1, 2, 31, 63, 64} {
			s, _ := nested(list, count, "a")
			taken(t, s)
			taken(t, s+"+"+s+"<"+s) // one behind the other: those of the first are shut
			fails(t, s+")", len(s), api.ErrSyntax)
		}
		for _, last := range []opener{{"(", "", 0}, {"if(", "", 2}, {"min(", "", 3}, {"max(", "", 3}, {"either(", "", 6}, {"abs(", "", 3}, {"ceil(", "", 4}, {"floor(", "", 5}, {"sum(", "", 3}, {"avg(", "", 3}, {"low(", "", 3}, {"high(", "", 4}, {"count(", "", 5}, {"rank(", "", 4}, {"cron(", "", 4}} {
			for _, behind := range []string{"", "a", "@", "01", ")", "(", "]", "a b c"} {
				s, at := nested(list, 64, last.head+behind)
				fails(t, s, at+last.deep, api.ErrDeep)
				whole, _ := nested(list, 64, "a")
				fails(t, whole+"*"+s, len(whole)+1+at+last.deep, api.ErrDeep)
			}
		}
		for _, leaf := range []string{"sum(a,1m)", "rank(a,1m,5)", `cron("x")`, "abs(a)"} {
			s, _ := nested(list, 63, leaf+"+"+leaf)
			taken(t, s)
			s, at := nested(list, 63, leaf+"+("+leaf+")")
			fails(t, s, at+len(leaf)+2+strings.Index(leaf, "("), api.ErrDeep)
		}
		// Where no bracket may stand, that is asked first.
		for _, inner := range []string{"a(", "1(", "true(", "1[s](", "a{", "a ladder"} {
			s, at := nested(list, 64, inner)
			fails(t, s, at+strings.IndexAny(inner, "({ ")+strings.Count(inner, " "), api.ErrSyntax)
		}
		s, at := nested(list, 64, "{")
		fails(t, s, at, api.ErrSyntax)
		s, at = nested(list, 65, "\xff")
		fails(t, s, at, api.ErrUtf8)
	}
}

func TestP13_2ManyBracketsOneBehindTheOther(t *testing.T) {
	taken(t, strings.Repeat("(a)+", 3000)+"a")
	taken(t, strings.Repeat("((a)-(b))*", 1000)+"sum(a,1m)")
	taken(t, strings.Repeat(`cron("x") and `, 2000)+"a")
	taken(t, strings.Repeat("(", 63)+strings.Repeat("abs(a)+", 2000)+"(a)"+strings.Repeat(")", 63))
}

// ladders answers that many ladders, the one within the other, about the inner action: as a rung's, or the last one.
func ladders(count int, rung bool, inner string) (string, int) {
	head, tail := "", ""
	for range count {
		if rung {
			head, tail = head+"ladder a{1:", ",else:hold}"+tail
		} else {
			head, tail = head+"ladder a{2:hold,else:", "}"+tail
		}
	}
	return head + inner + tail, len(head)
}

func TestP13_1Depth(t *testing.T) {
	head := "policy p; decide "
	for _, rung := range []bool{false, true} {
		for count := range 65 {
			s, _ := ladders(count, rung, "hold")
			takenPolicy(t, head+s+";")
			takenPolicy(t, "policy p; guard x then "+s+"; guard x then "+s+"; decide "+s+";")
			// As many ( within as are left, in each place, one behind the other.
			for _, place := range []string{"to %", "by %", "to %+%*%", "to a<%"} {
				inner, _ := nested(openers(), 64-count, "a")
				s, _ := ladders(count, rung, strings.ReplaceAll(place, "%", inner))
				takenPolicy(t, head+s+";")
				more, at := nested(openers()[:1], 64-count, "(a)")
				place, _, _ := strings.Cut(place, "%")
				s, begin := ladders(count, rung, place+more)
				failsPolicy(t, head+s+";", len(head)+begin+len(place)+at, api.ErrDeep)
			}
			if count < 64 { // a ladder's ( are shut when its { opens
				inner, _ := nested(openers(), 64-count, "a")
				s, _ = ladders(count, rung, "ladder "+inner+"{else:hold}")
				takenPolicy(t, head+s+";")
			}
		}
		for _, behind := range []string{"else:hold}", "", "@", "{", "ladder a{", ")"} {
			s, at := ladders(64, rung, "ladder a{"+behind)
			failsPolicy(t, head+s+";", len(head)+at+8, api.ErrDeep)
		}
		s, at := ladders(64, rung, "{")
		failsPolicy(t, head+s+";", len(head)+at, api.ErrSyntax)
		s, at = ladders(64, rung, "hold{")
		failsPolicy(t, head+s+";", len(head)+at+4, api.ErrSyntax)
		s, at = ladders(64, rung, "ladder {")
		failsPolicy(t, head+s+";", len(head)+at+7, api.ErrSyntax)
		s, at = ladders(64, rung, "ladder (")
		failsPolicy(t, head+s+";", len(head)+at+7, api.ErrDeep)
	}
	for _, before := range []string{"policy p; let x = ", "policy p; guard ", "policy p; decide to ", "policy p; decide by ", "policy p; decide ladder ", "policy p; guard x then to "} {
		s, at := nested(openers()[:1], 65, "a")
		failsPolicy(t, before+s, len(before)+at-1, api.ErrDeep)
	}
	takenPolicy(t, "policy p;"+strings.Repeat("let x = "+strings.Repeat("(", 64)+"a"+strings.Repeat(")", 64)+";", 100)+"decide hold;")
	takenPolicy(t, "policy p;"+strings.Repeat("guard a then ladder (a) { else: ladder a { else: hold } };", 800)+"decide hold;")
}

func TestP13_2ManyTokens(t *testing.T) {
	full := "-a" + strings.Repeat("+a", (api.MaxTokens-2)/2)
	if list, _, _ := lex.Cut(full); len(list) != api.MaxTokens+1 {
		t.Fatal(len(list))
	}
	taken(t, full)
	taken(t, "# \n"+full+" # + @")
	x, _, _ := Expr(full)
	if tree.Nodes(x) != api.MaxTokens {
		t.Error(tree.Nodes(x))
	}
	for _, more := range []string{"+a", "+", ")", "(", "a", "@", "01", ";", `"`, "{", "..", "日"} {
		fails(t, full+" "+more, len(full)+1, api.ErrLarge)
		fails(t, full+"\n#\n"+more+" @", len(full)+3, api.ErrLarge)
		// Among fewer tokens it is told as what it is.
		almost := full[:len(full)-2]
		if _, at, errno := Expr(almost + more); errno == api.ErrLarge || at > len(almost+more) {
			t.Error(more, at, errno)
		}
	}
	odd := full[1:] // MaxTokens - 1
	taken(t, odd)
	fails(t, odd+"+", len(odd)+1, api.ErrSyntax)
	fails(t, odd+"+@", len(odd)+1, api.ErrLarge)
	fails(t, odd+"+a", len(odd)+1, api.ErrLarge)
	fails(t, odd+"@", len(odd), api.ErrToken)
	fails(t, odd+" a a", len(odd)+1, api.ErrSyntax)
	fails(t, "a a"+full, 2, api.ErrSyntax)
	fails(t, "("+full, len(full), api.ErrLarge)
	fails(t, strings.Repeat("(", api.MaxTokens+1), 64, api.ErrDeep)
	fails(t, strings.Repeat("a ", api.MaxTokens+1), 2, api.ErrSyntax)
	fails(t, strings.Repeat(";", api.MaxTokens+1), 0, api.ErrSyntax)
	fails(t, full+"+a \xff", len(full)+3, api.ErrUtf8)
	fails(t, strings.Repeat("a+", api.MaxTokens/2), api.MaxTokens, api.ErrSyntax)
	fails(t, strings.Repeat("a+", api.MaxTokens/2)+"a", api.MaxTokens, api.ErrLarge)
}

func TestP13_1ManyTokens(t *testing.T) {
	head, end := "policy p;", "decide hold;"
	full := head + "metric a[s];" + strings.Repeat("metric a;", (api.MaxTokens-10)/3) + end
	if list, _, _ := lex.Cut(full); len(list) != api.MaxTokens+1 {
		t.Fatal(len(list))
	}
	takenPolicy(t, full)
	for _, more := range []string{"a", ";", "decide", "@", "01", "("} {
		failsPolicy(t, full+" "+more, len(full)+1, api.ErrLarge)
	}
	over := strings.Replace(full, "a;", "a[];", 1)
	failsPolicy(t, over, len(over)-1, api.ErrLarge)
	failsPolicy(t, strings.Replace(over, "metric", "metrics", 1), 9, api.ErrSyntax)
	failsPolicy(t, strings.Replace(over, "metric", "@", 1), 9, api.ErrToken)
	failsPolicy(t, strings.TrimSuffix(full, ";"), len(full)-1, api.ErrSyntax)
	takenPolicy(t, strings.Replace(full, "a[s];", "a;", 1))
	failsPolicy(t, strings.Replace(full, "a[s];", "a;", 1)+" ;", len(full)-2, api.ErrSyntax)

	rungs := head + "decide ladder -a {" + strings.Repeat("1:hold,", (api.MaxTokens-24)/4) + "-1[s]:hold,-2:hold,else:hold};"
	if list, _, _ := lex.Cut(rungs); len(list) != api.MaxTokens+1 {
		t.Fatal(len(list))
	}
	takenPolicy(t, rungs)
	failsPolicy(t, strings.Replace(rungs, "1", "-1", 1), len(rungs), api.ErrLarge)
	sum := head + "decide to -a" + strings.Repeat("+a", (api.MaxTokens-8)/2) + ";"
	takenPolicy(t, sum)
	failsPolicy(t, strings.Replace(sum, "+", "+-", 1), len(sum), api.ErrLarge)
}

func TestP13_1And2NothingThere(t *testing.T) {
	for _, s := range []string{"", " ", "\t\r\n", "#", "# a", "# a\n", "#\n#\n ", "  # policy p; decide hold;", "#\"\n", strings.Repeat(" ", 1000)} {
		bothFail(t, s, len(s), api.ErrSyntax)
	}
}

// tokensOf answers the texts of the tokens, as they stand in s.
func tokensOf(t *testing.T, s string) []string {
	t.Helper()
	list, _, errno := lex.Cut(s)
	if errno != api.OK {
		t.Fatal(s, errno)
	}
	var texts []string
	for _, token := range list[:len(list)-1] {
		text := token.Text
		switch token.Kind {
		case api.Quoted:
			text = `"` + text + `"`
		case api.Bracket:
			text = "[" + text + "]"
		}
		texts = append(texts, text)
	}
	return texts
}

// samples are policies that have every form in them.
func samples() []string {
	return []string{
		"policy web; replicas 2..40 step 4; decide hold;",
		"policy p; metric cpu [pct]; metric q; cooldown up 30s; cooldown down 5m; replicas 1..9; let x = avg(cpu, 1m); guard x > 1 then by 1[rep]; decide ladder x { -1: hold, 2[pct]: to 3[rep], else: hold };",
		`policy p; guard cron("0 3 * * *") or not (a < b) and true then ladder -a * (b - 1.5[s]) / c + d { else: ladder rank(q, 1h, 99) { -2[s]: by -1, else: to replicas } }; decide to if(a >= b, min(1, 2), max(abs(x), either(floor(y), ceil(z)))) ;`,
		"policy p; let y = sum(q, 1s) = low(q, 2s); let z = high(q, 3s) <= count(q, 4s) or false; let w = a - b - c * d / e > - f; decide by -1[rep];",
	}
}

// expressions are expressions that have every form in them.
func expressions() []string {
	return []string{"a", "1[s]", "-a", "not a", "a + b * -2[s]", "not (a < 1) or x and y", "rank(cpu, 5m, 95) - sum(a, 1s) / (avg(b, 2s))", `cron("x") and if(true, replicas, min(a, max(b, either(1, false))))`,
		"abs(ceil(floor(low(a, 1m)))) >= high(b, 2m) * count(c, 3m)", "a or b or c", "a and b and c", "((a)) <= (b) - -c"}
}

func TestP13_3Gaps(t *testing.T) {
	for _, s := range append(samples(), expressions()...) {
		texts := tokensOf(t, s)
		for i, gap := range []string{" ", "\n", "\t\r", "   ", "#\n", " # é @ \" [ 01 ( } \n ", "\n#1\n#2\n", "\r#;\n"} {
			text := gap + strings.Join(texts, gap) + gap
			if (i+len(texts))%2 == 0 {
				text += "# the end"
			}
			spread(t, s, text)
		}
		// And no more blanks than are needed to keep words and numbers apart.
		text := ""
		for i, piece := range texts {
			if list, _, errno := lex.Cut(text + piece); errno != api.OK || len(list) != i+2 {
				text += " "
			}
			text += piece
		}
		spread(t, s, text)
	}
}

// spread wants that both texts, of the same tokens, are read alike, but for their places, and these at the same tokens.
func spread(t *testing.T, s, text string) {
	t.Helper()
	from, _, _ := lex.Cut(s)
	to, _, _ := lex.Cut(text)
	if len(from) != len(to) {
		t.Fatal(s, text)
	}
	places := map[int]int{}
	for i := range from {
		places[from[i].At] = to[i].At
	}
	var placed func(x api.Term) api.Term
	placed = func(x api.Term) api.Term {
		x.At = places[x.At]
		parts := make([]api.Term, len(x.Parts))
		for i := range parts {
			parts[i] = placed(x.Parts[i])
		}
		x.Parts = parts
		return x
	}
	p, at, errno := Policy(s)
	q, a, e := Policy(text)
	for i, item := range p.Items {
		item.At = places[item.At]
		if item.Term.Kind != 0 {
			item.Term = placed(item.Term)
		}
		if item.Then.Kind != 0 {
			item.Then = placed(item.Then)
		}
		p.Items[i] = item
	}
	if errno != api.OK {
		at = places[at]
	}
	if !samePolicy(p, q) || a != at || e != errno {
		t.Errorf("%q: %v, %d, %d, wanted %v, %d, %d", text, q, a, e, p, at, errno)
	}
	x, at, errno := Expr(s)
	y, a, e := Expr(text)
	if errno == api.OK {
		x = placed(x)
	} else {
		at = places[at]
	}
	if !same(x, y) || a != at || e != errno {
		t.Errorf("%q: %v, %d, %d, wanted %v, %d, %d", text, y, a, e, x, at, errno)
	}
}

func TestP13_1And2EachTokenOutOfPlace(t *testing.T) {
	others := append(strings.Fields(reserved), "..", "<=", ">=", ";", ":", ",", "=", "(", ")", "{", "}", "+", "-", "*", "/", "<", ">", "a", "1", "1.5", "5m", `"x"`, "[s]", "@", "01", "8d", `"policy"`, `"("`, "[+]", "[else]")
	for _, s := range append(samples(), expressions()...) {
		texts := tokensOf(t, s)
		for i := range texts {
			agrees(t, strings.Join(texts[:i], " ")) // it ends too early
			agrees(t, strings.Join(texts[:i], " ")+" ")
			agrees(t, strings.Join(slices.Delete(slices.Clone(texts), i, i+1), " "))      // one is left out
			agrees(t, strings.Join(slices.Insert(slices.Clone(texts), i, texts[i]), " ")) // one is doubled
			agrees(t, strings.Join(texts[i:], " "))
			if i > 0 {
				swapped := slices.Clone(texts)
				swapped[i-1], swapped[i] = swapped[i], swapped[i-1]
				agrees(t, strings.Join(swapped, " "))
			}
			for _, other := range others {
				changed := slices.Clone(texts)
				changed[i] = other
				agrees(t, strings.Join(changed, " "))
				if len(texts) < 50 {
					agrees(t, strings.Join(slices.Insert(slices.Clone(texts), i, other), " "))
				}
			}
		}
		for _, other := range others {
			agrees(t, s+" "+other)
		}
	}
}

func TestP13_1EndsTooEarlyAtEachToken(t *testing.T) {
	for _, s := range samples() {
		list, _, _ := lex.Cut(s)
		for _, token := range list[:len(list)-1] {
			failsPolicy(t, s[:token.At], token.At, api.ErrSyntax)
			failsPolicy(t, s[:token.At]+"@", token.At, api.ErrToken)
			if token.Text != ".." {
				failsPolicy(t, s[:token.At]+" ..;", token.At+1, api.ErrSyntax)
			}
		}
	}
}

// texts gives each text of the term to see.
func texts(x api.Term, see func(string)) {
	see(x.Text)
	for _, part := range x.Parts {
		texts(part, see)
	}
}

// lists gives each list of the term to see, with its spare room.
func lists(x api.Term, see func([]api.Term)) {
	see(x.Parts[:cap(x.Parts)])
	for _, part := range x.Parts {
		lists(part, see)
	}
}

func TestP13_1And2AreNewMemory(t *testing.T) {
	for _, s := range append(samples(), expressions()...) {
		var all [][]api.Term
		inside := func(text string) {
			begin := uintptr(unsafe.Pointer(unsafe.StringData(s)))
			if at := uintptr(unsafe.Pointer(unsafe.StringData(text))); text != "" && at >= begin && at < begin+uintptr(len(s)) {
				t.Errorf("%q is a piece of what was handed in", text)
			}
		}
		keep := func(list []api.Term) {
			if len(list) > 0 {
				all = append(all, list)
			}
		}
		for range 2 {
			p, _, _ := Policy(s)
			inside(p.Name)
			for _, item := range p.Items {
				inside(item.Name)
				inside(item.Unit)
				for _, x := range []api.Term{item.Term, item.Then} {
					texts(x, inside)
					lists(x, keep)
				}
			}
			x, _, _ := Expr(s)
			texts(x, inside)
			lists(x, keep)
		}
		apart(t, all)
	}
}

// apart wants that no two lists share memory.
func apart(t *testing.T, all [][]api.Term) {
	t.Helper()
	slices.SortFunc(all, func(a, b []api.Term) int {
		if uintptr(unsafe.Pointer(&a[0])) < uintptr(unsafe.Pointer(&b[0])) {
			return -1
		}
		return 1
	})
	for i := 1; i < len(all); i++ {
		if uintptr(unsafe.Pointer(&all[i-1][len(all[i-1])-1])) >= uintptr(unsafe.Pointer(&all[i][0])) {
			t.Error("two lists share memory")
		}
	}
}

func TestP13_1And2KeepNothing(t *testing.T) {
	s := samples()[1]
	want, _, _ := Policy(s)
	for range 3 {
		fails(t, strings.Repeat("(", 64), 64, api.ErrSyntax)
		p, _, _ := Policy(s)
		if !samePolicy(p, want) {
			t.Error(p)
		}
		for i := range p.Items {
			p.Items[i] = api.Item{}
		}
		failsPolicy(t, "policy p; decide ladder ((a { else:", 28, api.ErrSyntax)
		taken(t, strings.Repeat("(", 64)+"a"+strings.Repeat(")", 64))
		fails(t, "a @", 2, api.ErrToken)
		taken(t, "a")
	}
}

func TestGivesUpByAnErrorOfItsOwn(t *testing.T) {
	for _, x := range []struct {
		thrown any
		at     int
		errno  api.Errno
	}{
		{fault{7, api.ErrDeep}, 7, api.ErrDeep}, {errors.Join(errors.New("x"), fault{9, api.ErrSyntax}), 9, api.ErrSyntax},
		// What isn't its own is told from a fault of the text.
		{errors.New("x"), 0, api.ErrForm}, {"x", 0, api.ErrForm}, {7, 0, api.ErrForm}, {api.ErrDeep, 0, api.ErrForm},
	} {
		if made, at, errno := caught(func() string { panic(x.thrown) }); made != "" || at != x.at || errno != x.errno {
			t.Error(x, made, at, errno)
		}
	}
	if made, at, errno := caught(func() string { return "made" }); made != "made" || at != 0 || errno != api.OK {
		t.Error(made, at, errno)
	}
	if text := (fault{7, api.ErrDeep}).Error(); text != "error 15 at 7" {
		t.Error(text)
	}
}

func TestCallsOnlyTheLayersBelow(t *testing.T) {
	files, err := filepath.Glob("*.go")
	if err != nil || len(files) == 0 {
		t.Fatal(files, err)
	}
	for _, name := range files {
		if strings.HasSuffix(name, "_test.go") {
			continue
		}
		file, err := parser.ParseFile(token.NewFileSet(), name, nil, parser.ImportsOnly)
		if err != nil {
			t.Fatal(err)
		}
		for _, spec := range file.Imports {
			path, _ := strconv.Unquote(spec.Path.Value)
			if strings.HasPrefix(path, "capstan/") && !slices.Contains([]string{"capstan/api", "capstan/lex", "capstan/tree"}, path) {
				t.Errorf("%s imports %s", name, path)
			}
		}
	}
}
