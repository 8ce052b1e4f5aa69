package lex

import (
	"go/parser"
	"go/token"
	"path/filepath"
	"slices"
	"strconv"
	"strings"
	"testing"
	"unicode/utf8"
	"unsafe"

	"capstan/api"
	"capstan/num"
)

// words are the reserved words, as the chapter lists them.
const words = "policy metric replicas step cooldown up down let guard then decide hold to by ladder else or and not true false " +
	"if min max either abs ceil floor sum avg low high count rank cron"

// signs are all signs, as the chapter lists them.
const signs = ".. <= >= ; : , = ( ) { } + - * / < >"

// cuts wants that s is cut into these tokens, and the end behind them.
func cuts(t *testing.T, s string, want ...api.Token) {
	t.Helper()
	want = append(want[:len(want):len(want)], api.Token{Kind: api.End, At: len(s)})
	list, at, errno := Cut(s)
	if !slices.Equal(list, want) || at != 0 || errno != api.OK {
		t.Errorf("Cut(%.90q) = %v, %d, %d, wanted %v", s, some(list), at, errno, some(want))
	}
}

// fails wants the error, its place, and no tokens beside it.
func fails(t *testing.T, s string, at int, errno api.Errno) {
	t.Helper()
	if list, a, e := Cut(s); len(list) != 0 || a != at || e != errno {
		t.Errorf("Cut(%.90q) = %v, %d, %d, wanted %d, %d", s, some(list), a, e, at, errno)
	}
}

// some answers the first tokens, few enough to be read.
func some(list []api.Token) []api.Token {
	return list[:min(len(list), 20)]
}

func word(text string, at int) api.Token {
	return api.Token{Kind: api.Word, Text: text, At: at}
}

func name(text string, at int) api.Token {
	return api.Token{Kind: api.Name, Text: text, At: at}
}

func number(text string, n int64, at int) api.Token {
	return api.Token{Kind: api.Number, Text: text, N: n, At: at}
}

func duration(text string, n int64, at int) api.Token {
	return api.Token{Kind: api.Duration, Text: text, N: n, At: at}
}

func quoted(text string, at int) api.Token {
	return api.Token{Kind: api.Quoted, Text: text, At: at}
}

func bracket(text string, at int) api.Token {
	return api.Token{Kind: api.Bracket, Text: text, At: at}
}

func sign(text string, at int) api.Token {
	return api.Token{Kind: api.Sign, Text: text, At: at}
}

func TestP11_1Examples(t *testing.T) {
	cuts(t, "metric cpu [pct];", word("metric", 0), name("cpu", 7), bracket("pct", 11), sign(";", 16))
	cuts(t, "2..40", number("2", 2000000, 0), sign("..", 1), number("40", 40000000, 3))
	cuts(t, "1h30m", duration("1h30m", 5400, 0))
	fails(t, "1.5x", 0, api.ErrNumber)
	cuts(t, "a # b\nc", name("a", 0), name("c", 6))
	cuts(t, `"é #"`, quoted("é #", 0))
	fails(t, `"a`, 0, api.ErrToken)
	fails(t, "a.b", 1, api.ErrToken)
	cuts(t, "x<=1", name("x", 0), sign("<=", 1), number("1", 1000000, 3))
	fails(t, "1.", 1, api.ErrToken)
}

func TestP11_2Examples(t *testing.T) {
	for _, s := range []string{"cpu_1", "é"} {
		if !IsName(s) {
			t.Error(s)
		}
	}
	for _, s := range []string{"min", "1a", "", strings.Repeat("a", 33)} {
		if IsName(s) {
			t.Error(s)
		}
	}
}

func TestP11_1APolicy(t *testing.T) {
	s := "policy web; # the front\nreplicas 2..40 step 4;\nmetric cpu [pct];\n" +
		"guard cron(\"0 3 * * *\") then to 1[rep];\ndecide by if(avg(cpu,1m)>=80.5[pct],-1,0);\n"
	cuts(t, s,
		word("policy", 0), name("web", 7), sign(";", 10),
		word("replicas", 24), number("2", 2000000, 33), sign("..", 34), number("40", 40000000, 36), word("step", 39), number("4", 4000000, 44), sign(";", 45),
		word("metric", 47), name("cpu", 54), bracket("pct", 58), sign(";", 63),
		word("guard", 65), word("cron", 71), sign("(", 75), quoted("0 3 * * *", 76), sign(")", 87), word("then", 89), word("to", 94),
		number("1", 1000000, 97), bracket("rep", 98), sign(";", 103),
		word("decide", 105), word("by", 112), word("if", 115), sign("(", 117), word("avg", 118), sign("(", 121), name("cpu", 122), sign(",", 125),
		duration("1m", 60, 126), sign(")", 128), sign(">=", 129), number("80.5", 80500000, 131), bracket("pct", 135), sign(",", 140),
		sign("-", 141), number("1", 1000000, 142), sign(",", 143), number("0", 0, 144), sign(")", 145), sign(";", 146))
}

func TestP11_1BlanksAndRemarksAlone(t *testing.T) {
	for _, s := range []string{"", " ", "\t", "\n", "\r", " \t\r\n", "#", "##", "# only", "#\n", "#\n#", "#\n#\n", " # a\n\t# b \r\n ", "# \" [ @ 01 é 日 .", "#a\r@", "\n\n#"} {
		cuts(t, s)
	}
}

func TestP11_1BlanksAndRemarksAround(t *testing.T) {
	gaps := []string{" ", "\t", "\n", "\r", "\r\n", "  ", "#\n", "# é @ \" [ 01\n", " # b\n", "#b\n ", "#1\n#2\n", "\n# 日\n\n#\n", "# a # b\n", "#\r \n"}
	for _, gap := range gaps {
		cuts(t, gap+"a", name("a", len(gap)))
		cuts(t, "a"+gap, name("a", 0))
		cuts(t, gap+"é"+gap+"1"+gap, name("é", len(gap)), number("1", 1000000, 2*len(gap)+2))
		cuts(t, `"a"`+gap+"[b]"+gap+";", quoted("a", 0), bracket("b", 3+len(gap)), sign(";", 6+2*len(gap)))
		cuts(t, "<"+gap+"="+gap+"..", sign("<", 0), sign("=", 1+len(gap)), sign("..", 2+2*len(gap)))
		fails(t, "."+gap+".", 0, api.ErrToken)
		fails(t, gap+"@", len(gap), api.ErrToken)
		fails(t, "a"+gap+"@", 1+len(gap), api.ErrToken)
	}
}

func TestP11_1RemarkUpToTheEnd(t *testing.T) {
	cuts(t, "a # b", name("a", 0))
	cuts(t, "a#", name("a", 0))
	cuts(t, "1#2\n3", number("1", 1000000, 0), number("3", 3000000, 4))
	cuts(t, "a #\r b", name("a", 0)) // a return ends no remark
	cuts(t, "1h#m", duration("1h", 3600, 0))
	cuts(t, "<#\n=", sign("<", 0), sign("=", 3))
	cuts(t, "a# \" \nb # \"", name("a", 0), name("b", 6))
}

func TestP11_1NoRemarkWithin(t *testing.T) {
	cuts(t, `"#"`, quoted("#", 0))
	cuts(t, `"a # b" c`, quoted("a # b", 0), name("c", 8))
	cuts(t, "[#] c", bracket("#", 0), name("c", 4))
	cuts(t, `[a#b]"#"# "`, bracket("a#b", 0), quoted("#", 5))
	fails(t, "\"#\n\"", 0, api.ErrToken)
	fails(t, "[#\n]", 0, api.ErrToken)
	fails(t, "\"a # \" b\"", 8, api.ErrToken)
}

func TestP11_1And2ReservedWords(t *testing.T) {
	list := strings.Fields(words)
	if len(list) != 35 {
		t.Fatal(len(list))
	}
	for _, w := range list {
		cuts(t, w, word(w, 0))
		cuts(t, " "+w+";", word(w, 1), sign(";", 1+len(w)))
		cuts(t, `"`+w+`"[`+w+"]#"+w, quoted(w, 0), bracket(w, 2+len(w)))
		if !Reserved(w) || IsName(w) {
			t.Error(w)
		}
	}
}

// near answers the words beside w: with a letter or digit more or less, or another one, or greater.
func near(w string) []string {
	list := []string{strings.ToUpper(w), strings.ToUpper(w[:1]) + w[1:], w[:len(w)-1] + strings.ToUpper(w[len(w)-1:]), w + w}
	for i := range len(w) + 1 {
		for _, more := range []string{"a", "s", "_", "é", "ı", "1", "0", w[max(i-1, 0) : max(i-1, 0)+1]} {
			list = append(list, w[:i]+more+w[i:])
			if i < len(w) {
				list = append(list, w[:i]+more+w[i+1:])
			}
		}
		if i < len(w) {
			list = append(list, w[:i]+w[i+1:])
		}
	}
	return list
}

func TestP11_1And2NearReservedWords(t *testing.T) {
	all := strings.Fields(words)
	for _, w := range all {
		for _, s := range near(w) {
			is := slices.Contains(all, s) // an or with one more may be another one
			if Reserved(s) != is {
				t.Error(s)
			}
			begins := s != "" && (s[0] < '0' || s[0] > '9')
			if IsName(s) != (begins && !is) {
				t.Error(s)
			}
			if begins && is {
				cuts(t, s, word(s, 0))
			} else if begins {
				cuts(t, s, name(s, 0))
			}
		}
	}
}

func TestP11_2Reserved(t *testing.T) {
	for _, s := range []string{"", " ", "policy ", " policy", "Policy", "POLICY", "policy;", "a", "1", "é", "\xff", "policy\x00", "or\xff", "#", ";", "..", "\"to\"", "[to]", "min max", words,
		"name", "number", "end", "window", "ticks", "maximum", "nothing", "elseif", "1h", "rep", "trueé"} {
		if Reserved(s) {
			t.Error(s)
		}
	}
}

// letterEdges are letters at the ends of the class's ranges, of one byte and of two.
func letterEdges() []string {
	return []string{"a", "z", "A", "Z", "_", "\u00c0", "\u00d6", "\u00d8", "\u00f6", "\u00f8", "\u00ff", "\u0100", "\u017f", "\u0180", "\u024f", "é"}
}

func TestP11_1And2Names(t *testing.T) {
	for _, x := range letterEdges() {
		for _, s := range []string{x, x + x, x + "1", x + "0_9", "_" + x, x + "9" + x, "q7" + x} {
			cuts(t, s, name(s, 0))
			cuts(t, "\n"+s+"+", name(s, 1), sign("+", 1+len(s)))
			if !IsName(s) || Reserved(s) {
				t.Error(s)
			}
		}
	}
}

func TestP11_1And2LongNames(t *testing.T) {
	for _, x := range letterEdges() {
		most := strings.Repeat(x, api.MaxName)
		for _, s := range []string{most, x + strings.Repeat("0", api.MaxName-1), x + strings.Repeat("é", api.MaxName-1), most[:len(most)-len(x)] + "9"} {
			if utf8.RuneCountInString(s) != api.MaxName {
				t.Fatal(s)
			}
			cuts(t, s, name(s, 0))
			cuts(t, s+" "+s, name(s, 0), name(s, len(s)+1))
			if !IsName(s) {
				t.Error(s)
			}
			for _, more := range []string{x, "1", "_", "é"} {
				fails(t, s+more, 0, api.ErrToken)
				fails(t, "a é "+s+more, 5, api.ErrToken)
				fails(t, s+";"+s+more+" @", len(s)+1, api.ErrToken)
				if IsName(s + more) {
					t.Error(s + more)
				}
			}
			cuts(t, s+"-1", name(s, 0), sign("-", len(s)), number("1", 1000000, len(s)+1))
			if IsName(s+"-") || IsName(s+" ") || IsName(s+"\xff") {
				t.Error(s)
			}
		}
	}
	long := strings.Repeat("a", api.MaxSource)
	fails(t, long, 0, api.ErrToken)
	if IsName(long) || IsName(strings.Repeat("é", 1<<20)) {
		t.Error("long")
	}
}

func TestP11_2NoNames(t *testing.T) {
	for _, s := range []string{"", " ", "1", "1a", "0_", " a", "a ", "a b", "a-b", "a.b", "a\n", "\na", "a#", "#", "é日", "日", "a×", "×", "÷a", "a÷", "ɐ", "aɐ", "a\u00bf", "ª",
		"\xff", "a\xff", "\xffa", "a\xc3", "\xc3a", "a\x00", "\x00", "a\x7f", "a\ufeff", "\ufeffa", "a\ufffd", "\ufffd", "\"a\"", "[a]", "a;", ";", "..", "a\xe2", "é\xa9", "\xc1\xa1", "-a", "$", "a'"} {
		if IsName(s) {
			t.Errorf("%q", s)
		}
	}
}

func TestP11_1Numbers(t *testing.T) {
	for _, text := range []string{"0", "7", "10", "0.5", "1.5", "1.000000", "0.000001", "12.345678", "9223372036854", "9223372036854.775807"} {
		n, errno := num.Read(text)
		if errno != api.OK {
			t.Fatal(text)
		}
		cuts(t, text, number(text, n, 0))
		cuts(t, "é"+" "+text+"[s]", name("é", 0), number(text, n, 3), bracket("s", 3+len(text)))
		cuts(t, text+".."+text, number(text, n, 0), sign("..", len(text)), number(text, n, len(text)+2))
		cuts(t, "-"+text+"-"+text, sign("-", 0), number(text, n, 1), sign("-", 1+len(text)), number(text, n, 2+len(text)))
		cuts(t, text+"\n", number(text, n, 0))
		cuts(t, text+`"a"`, number(text, n, 0), quoted("a", len(text)))
	}
}

func TestP11_1Durations(t *testing.T) {
	for text, n := range map[string]int64{
		"1s": 1, "90s": 90, "1m": 60, "25h": 90000, "7d": 604800, "1d2h3m4s": 93784, "1h30m": 5400, "604800s": 604800, "1d1s": 86401, "999m": 59940, "6d23h59m60s": 604800,
	} {
		cuts(t, text, duration(text, n, 0))
		cuts(t, "a "+text+",", name("a", 0), duration(text, n, 2), sign(",", 2+len(text)))
		cuts(t, text+".."+text, duration(text, n, 0), sign("..", len(text)), duration(text, n, len(text)+2))
		cuts(t, text+" "+text, duration(text, n, 0), duration(text, n, len(text)+1))
		fails(t, text+".5", len(text), api.ErrToken)
	}
}

func TestP11_1NoNumbers(t *testing.T) {
	list := []string{
		"01", "00", "00.5", "1.0000000", "0.0000001", "9223372036854.775808", "9223372036855", "10000000000000", strings.Repeat("9", 100),
		"1e3", "1a", "1_", "1é", "1x5", "0x1f", "1.5x", "1.5h", "1.5s", "1.5e3", "1.0é", "10.25_", "1.5h30m",
		"7d1s", "30m1h", "1m1m", "0s", "01s", "1000000s", "604801s", "8d", "1h0m", "1h30", "1s5", "1w", "1H", "1min", "1ms", "1d2", "1h_", "1hé", "1hh", "1h30mx", "1sh",
	}
	for _, text := range list {
		fails(t, text, 0, api.ErrNumber)
		fails(t, "é; "+text, 4, api.ErrNumber)
		fails(t, text+";", 0, api.ErrNumber)
		fails(t, "# 01\n"+text+" @", 5, api.ErrNumber)
		fails(t, "1.."+text, 3, api.ErrNumber)
		fails(t, "@ "+text, 0, api.ErrToken)
		cuts(t, `"`+text[:min(60, len(text))]+`"`, quoted(text[:min(60, len(text))], 0))
	}
}

func TestP11_1Points(t *testing.T) {
	fails(t, "1.", 1, api.ErrToken)
	fails(t, "1. 5", 1, api.ErrToken)
	fails(t, "1.a", 1, api.ErrToken)
	fails(t, "1.h", 1, api.ErrToken)
	fails(t, "1.é", 1, api.ErrToken)
	fails(t, "1.[s]", 1, api.ErrToken)
	fails(t, "12.\n", 2, api.ErrToken)
	fails(t, "1#\n.", 3, api.ErrToken)
	fails(t, ".5", 0, api.ErrToken)
	fails(t, ".", 0, api.ErrToken)
	fails(t, "a .5", 2, api.ErrToken)
	fails(t, "1.5.", 3, api.ErrToken)
	fails(t, "1.5.5", 3, api.ErrToken)
	fails(t, "1...5", 3, api.ErrToken)
	fails(t, "...", 2, api.ErrToken)
	fails(t, "01.", 0, api.ErrNumber)
	fails(t, "01..2", 0, api.ErrNumber)
	fails(t, "1.0000000.", 0, api.ErrNumber)
	cuts(t, "..", sign("..", 0))
	cuts(t, "....", sign("..", 0), sign("..", 2))
	cuts(t, "1..", number("1", 1000000, 0), sign("..", 1))
	cuts(t, "..1", sign("..", 0), number("1", 1000000, 2))
	cuts(t, "1..5", number("1", 1000000, 0), sign("..", 1), number("5", 5000000, 3))
	cuts(t, "1.5..2", number("1.5", 1500000, 0), sign("..", 3), number("2", 2000000, 5))
	cuts(t, "1..2.5", number("1", 1000000, 0), sign("..", 1), number("2.5", 2500000, 3))
	cuts(t, "1....5", number("1", 1000000, 0), sign("..", 1), sign("..", 3), number("5", 5000000, 5))
	cuts(t, "1..a", number("1", 1000000, 0), sign("..", 1), name("a", 3))
	cuts(t, "1h..a", duration("1h", 3600, 0), sign("..", 2), name("a", 4))
	cuts(t, "1 ..", number("1", 1000000, 0), sign("..", 2))
	fails(t, "1 . .", 2, api.ErrToken)
}

func TestP11_1QuotedTexts(t *testing.T) {
	for _, text := range []string{"", " ", "a", "0 3 * * *", "é", "日本", "#", "[", "]", "[]", "[a", "\t", "\r", "\\", "\\n", "'", ";", "policy", "01", "@", "\u00a0", "\ufffd", "\U0001f600", "..",
		strings.Repeat("a", api.MaxText), strings.Repeat("é", api.MaxText), strings.Repeat("\U0001f600", api.MaxText), strings.Repeat("]", api.MaxText), strings.Repeat("日", api.MaxText-1) + "#"} {
		behind := len(text) + 2
		cuts(t, `"`+text+`"`, quoted(text, 0))
		cuts(t, `"`+text+`""`+text+`"`, quoted(text, 0), quoted(text, behind))
		cuts(t, `é"`+text+`"é`, name("é", 0), quoted(text, 2), name("é", 2+behind))
		fails(t, `"`+text, 0, api.ErrToken)
		fails(t, `a "`+text+"\n\"", 2, api.ErrToken)
		fails(t, "\""+text+"\n", 0, api.ErrToken)
		fails(t, "\"\n"+text+"\"", 0, api.ErrToken)
		fails(t, `"`+text+`" "`+text, behind+1, api.ErrToken)
		fails(t, `"`+text+`""`, behind, api.ErrToken)
	}
	for _, x := range []string{"a", "é", "日", "\U0001f600", "#", " ", "]"} {
		for _, count := range []int{api.MaxText + 1, api.MaxText + 2, 4 * api.MaxText, 1000} {
			fails(t, `"`+strings.Repeat(x, count)+`"`, 0, api.ErrToken)
			fails(t, `"" "`+strings.Repeat(x, count)+`" 01`, 3, api.ErrToken)
		}
	}
	fails(t, `"`, 0, api.ErrToken)
	fails(t, `"a" "`, 4, api.ErrToken)
	cuts(t, `""`, quoted("", 0))
	cuts(t, `"\"`, quoted(`\`, 0)) // a stroke ahead of a quotation mark changes nothing
}

func TestP11_1Brackets(t *testing.T) {
	for _, text := range []string{"", " ", "a", "req/s", "é", "日本", "#", "\t", "\r", "'", ";", "policy", "01", "@", "(", "{", "\u00a0", "\ufffd", "\U0001f600",
		strings.Repeat("a", api.MaxText), strings.Repeat("é", api.MaxText), strings.Repeat("\U0001f600", api.MaxText), strings.Repeat("日", api.MaxText-1) + "#"} {
		behind := len(text) + 2
		cuts(t, "["+text+"]", bracket(text, 0))
		cuts(t, "["+text+"]["+text+"]", bracket(text, 0), bracket(text, behind))
		cuts(t, "é["+text+"]é", name("é", 0), bracket(text, 2), name("é", 2+behind))
		fails(t, "["+text, 0, api.ErrToken)
		fails(t, "a ["+text+"\n]", 2, api.ErrToken)
		fails(t, "["+text+"\n", 0, api.ErrToken)
		fails(t, "[\n"+text+"]", 0, api.ErrToken)
		fails(t, "["+text+`"]`, 0, api.ErrToken)
		fails(t, "["+text+`"`, 0, api.ErrToken)
		fails(t, `["`+text+`"]`, 0, api.ErrToken)
		fails(t, "["+text+"[]", 0, api.ErrToken)
		fails(t, "["+text+"[]]", 0, api.ErrToken)
		fails(t, "["+text+"] ["+text, behind+1, api.ErrToken)
		fails(t, "["+text+"]]", behind, api.ErrToken)
	}
	for _, x := range []string{"a", "é", "日", "\U0001f600", "#", " "} {
		for _, count := range []int{api.MaxText + 1, api.MaxText + 2, 4 * api.MaxText, 1000} {
			fails(t, "["+strings.Repeat(x, count)+"]", 0, api.ErrToken)
			fails(t, "[] ["+strings.Repeat(x, count)+"] 01", 3, api.ErrToken)
		}
	}
	fails(t, "[", 0, api.ErrToken)
	fails(t, "]", 0, api.ErrToken)
	fails(t, "a]", 1, api.ErrToken)
	fails(t, "[[", 0, api.ErrToken)
	fails(t, "[[]]", 0, api.ErrToken)
	fails(t, "[][", 2, api.ErrToken)
	cuts(t, `[]"]"`, bracket("", 0), quoted("]", 2))
}

func TestP11_1Signs(t *testing.T) {
	list := strings.Fields(signs)
	if len(list) != 17 {
		t.Fatal(len(list))
	}
	for _, a := range list {
		cuts(t, a, sign(a, 0))
		cuts(t, "x"+a+"1", name("x", 0), sign(a, 1), number("1", 1000000, 1+len(a)))
		cuts(t, `""`+a+"[]", quoted("", 0), sign(a, 2), bracket("", 2+len(a)))
		for _, b := range list {
			cuts(t, a+" "+b, sign(a, 0), sign(b, len(a)+1))
			if a+b == "<=" || a+b == ">=" {
				cuts(t, a+b, sign(a+b, 0))
			} else {
				cuts(t, a+b, sign(a, 0), sign(b, len(a)))
			}
		}
	}
	cuts(t, "<==", sign("<=", 0), sign("=", 2))
	cuts(t, "=<=", sign("=", 0), sign("<=", 1))
	cuts(t, "<<=", sign("<", 0), sign("<=", 1))
	cuts(t, "><=>=", sign(">", 0), sign("<=", 1), sign(">=", 3))
	cuts(t, "=>", sign("=", 0), sign(">", 1))
	cuts(t, "<>", sign("<", 0), sign(">", 1))
	cuts(t, "==", sign("=", 0), sign("=", 1))
	cuts(t, "< =", sign("<", 0), sign("=", 2))
	cuts(t, "<", sign("<", 0))
	cuts(t, strings.Join(list, ""), signRow(list)...)
}

// signRow answers the tokens of the signs, one beside the other.
func signRow(list []string) []api.Token {
	var row []api.Token
	at := 0
	for _, text := range list {
		row = append(row, sign(text, at))
		at += len(text)
	}
	return row
}

func TestP11_1RunesThatBeginNoToken(t *testing.T) {
	for _, x := range []string{"!", "$", "%", "&", "'", ".", "?", "@", "\\", "]", "^", "`", "|", "~", "\u00a0", "ª", "µ", "º", "\u00bf", "×", "÷", "\u0250", "α", "日", "\u2028", "\ufffd", "\U0001f600", "٣", "＃", "－", "“"} {
		fails(t, x, 0, api.ErrToken)
		fails(t, " "+x, 1, api.ErrToken)
		fails(t, "a"+x, 1, api.ErrToken)
		fails(t, "é"+x+"é", 2, api.ErrToken)
		fails(t, "1"+x, 1, api.ErrToken)
		fails(t, `"é"`+x, 4, api.ErrToken)
		fails(t, "[日]"+x, 5, api.ErrToken)
		fails(t, "<"+x+"=", 1, api.ErrToken)
		fails(t, "# "+x+"\n"+x, 3+len(x), api.ErrToken)
		fails(t, x+" "+x, 0, api.ErrToken)
		cuts(t, "# "+x)
	}
}

func TestP11_1LongTexts(t *testing.T) {
	for _, full := range []string{strings.Repeat(" ", api.MaxSource), "#" + strings.Repeat("@", api.MaxSource-1), strings.Repeat("# é\n", api.MaxSource/5) + " "} {
		full += strings.Repeat(" ", api.MaxSource-len(full))
		cuts(t, full)
		fails(t, full+" ", 0, api.ErrLong)
		fails(t, full+"\n", 0, api.ErrLong)
	}
	blanks := strings.Repeat(" ", api.MaxSource-1)
	cuts(t, blanks+"a", name("a", api.MaxSource-1))
	cuts(t, "a"+blanks, name("a", 0))
	fails(t, blanks+"@", api.MaxSource-1, api.ErrToken)
	fails(t, blanks+"\xff", api.MaxSource-1, api.ErrUtf8)
	fails(t, blanks+"\x00", api.MaxSource-1, api.ErrRune)
	fails(t, blanks+"é", 0, api.ErrLong)
	fails(t, "@"+blanks, 0, api.ErrToken)
	// Its length is asked first: ahead of bytes that are none, of tokens, and of their number.
	fails(t, "\xff"+blanks+" ", 0, api.ErrLong)
	fails(t, "  \xff"+blanks, 0, api.ErrLong)
	fails(t, "  \x00"+blanks, 0, api.ErrLong)
	fails(t, "  @"+blanks, 0, api.ErrLong)
	fails(t, strings.Repeat(";", api.MaxSource+1), 0, api.ErrLong)
	fails(t, strings.Repeat("1", api.MaxSource), 0, api.ErrNumber)
	fails(t, "1."+strings.Repeat("1", api.MaxSource-2), 0, api.ErrNumber)
	fails(t, `"`+strings.Repeat("a", api.MaxSource-1), 0, api.ErrToken)
	fails(t, "["+strings.Repeat("a", api.MaxSource-2)+"]", 0, api.ErrToken)
	// Bytes are counted, not runes.
	fails(t, "#"+strings.Repeat("é", api.MaxSource/2), 0, api.ErrLong)
	cuts(t, "#"+strings.Repeat("é", api.MaxSource/2-1)+" ")
}

func TestP11_1FaultsOfTheText(t *testing.T) {
	for _, x := range []struct {
		s     string
		errno api.Errno
	}{
		{"\xff", api.ErrUtf8}, {"\x80", api.ErrUtf8}, {"\xc3", api.ErrUtf8}, {"\xed\xa0\x80", api.ErrUtf8}, {"\xf4\x90\x80\x80", api.ErrUtf8}, {"\xc0\x80", api.ErrUtf8},
		{"\x00", api.ErrRune}, {"\x0b", api.ErrRune}, {"\x1f", api.ErrRune}, {"\x7f", api.ErrRune}, {"\u0080", api.ErrRune}, {"\u009f", api.ErrRune}, {"\ufeff", api.ErrRune},
	} {
		fails(t, x.s, 0, x.errno)
		// Within a name, a text, brackets, a remark, and behind faults of tokens, which are asked later.
		for _, ahead := range []string{"a", " ", "é", "#", "# é", `"`, `"é`, "[", "1", "1.", "01 ", "1x", "@", "@ ", ".", `"a` + "\n", "[[", "]", "!;", strings.Repeat("a", 40),
			`"` + strings.Repeat("a", 70) + `"`, strings.Repeat(";", api.MaxTokens+1)} {
			fails(t, ahead+x.s, len(ahead), x.errno)
			fails(t, ahead+x.s+"@\xff\x00", len(ahead), x.errno)
		}
	}
}

func TestP11_1MaxTokens(t *testing.T) {
	for _, piece := range []string{";", "; ", "a ", "to\n", "1\t", "1h ", `""`, "[]", "..", "#\n-", `"a" # b` + "\n"} {
		full := strings.Repeat(piece, api.MaxTokens)
		list, at, errno := Cut(full)
		if len(list) != api.MaxTokens+1 || at != 0 || errno != api.OK {
			t.Fatalf("%q: %d, %d, %d", piece, len(list), at, errno)
		}
		for i, token := range list[:api.MaxTokens] {
			want := list[0]
			want.At = list[0].At + i*len(piece)
			if token != want {
				t.Fatal(piece, i, token)
			}
		}
		if list[api.MaxTokens] != (api.Token{Kind: api.End, At: len(full)}) {
			t.Error(list[api.MaxTokens])
		}
		for _, more := range []string{" ", "\n", "#", "# @\n \t"} {
			if list, _, errno := Cut(full + more); len(list) != api.MaxTokens+1 || errno != api.OK {
				t.Error(piece, more)
			}
		}
		// The one more may be anything, a fault too.
		for _, more := range []string{"a", "to", "1", "1h", `""`, "[]", ";", "..", "@", ".", "01", "1x", `"`, "[", "]", "日", strings.Repeat("a", 33), `"` + strings.Repeat("a", 65) + `"`, ";;;", "a b c"} {
			fails(t, full+"\n#\n"+more+" @", len(full)+3, api.ErrLarge)
		}
		fails(t, full+" \xff", len(full)+1, api.ErrUtf8)
		fails(t, full+" ; \x00", len(full)+3, api.ErrRune)
	}
	almost := strings.Repeat(";", api.MaxTokens-1)
	fails(t, almost+"@", len(almost), api.ErrToken)
	fails(t, almost+"01", len(almost), api.ErrNumber)
	fails(t, almost+`"`, len(almost), api.ErrToken)
	fails(t, almost+"a@", len(almost)+1, api.ErrLarge)
	fails(t, almost+"1.", len(almost)+1, api.ErrLarge)
	fails(t, almost+"<==", len(almost)+2, api.ErrLarge)
	fails(t, "@"+almost+";;", 0, api.ErrToken)
	fails(t, strings.Repeat(";", api.MaxSource), api.MaxTokens, api.ErrLarge)
}

func TestP11_1WhichFaultComesFirst(t *testing.T) {
	faults := []struct {
		s     string
		errno api.Errno
	}{
		{"@", api.ErrToken}, {".", api.ErrToken}, {"日", api.ErrToken}, {"]", api.ErrToken}, {strings.Repeat("é", 33), api.ErrToken},
		{"\"\n", api.ErrToken}, {"[\n", api.ErrToken}, {"[[", api.ErrToken}, {"01", api.ErrNumber}, {"1.0000000", api.ErrNumber}, {"1x", api.ErrNumber}, {"8d", api.ErrNumber},
	}
	for _, a := range faults {
		for _, b := range faults {
			for _, gap := range []string{" ", "\n", " a ", ";", "\n#\n", " 1h "} {
				fails(t, a.s+gap+b.s, 0, a.errno)
				fails(t, "é "+a.s+gap+b.s, 3, a.errno)
			}
		}
		remark := "# " + a.s + "\n"
		fails(t, remark+a.s, len(remark), a.errno)
	}
}

func TestP11_1IsNewMemory(t *testing.T) {
	s := `metric cpu [pct]; "é #" 1.5 1h <= ` + strings.Repeat("x", 30)
	first, _, _ := Cut(s)
	second, _, _ := Cut(s)
	copied := append([]api.Token(nil), second...)
	clear(first[:cap(first)])
	if !slices.Equal(second, copied) {
		t.Error(second)
	}
	third, _, _ := Cut(s)
	if !slices.Equal(third, copied) {
		t.Error(third)
	}
	// No text of a token is a piece of what was handed in, which would then be kept.
	begin := uintptr(unsafe.Pointer(unsafe.StringData(s)))
	for _, token := range third {
		if token.Text == "" {
			continue
		}
		if at := uintptr(unsafe.Pointer(unsafe.StringData(token.Text))); at >= begin && at < begin+uintptr(len(s)) {
			t.Error(token)
		}
	}
}

func TestP11_1KeepsNothing(t *testing.T) {
	for range 3 {
		cuts(t, "a 1", name("a", 0), number("1", 1000000, 2))
		fails(t, "a @", 2, api.ErrToken)
		cuts(t, "")
		fails(t, strings.Repeat(";", api.MaxTokens+1), api.MaxTokens, api.ErrLarge)
		cuts(t, ";", sign(";", 0))
	}
}

func TestLongTextsTakeNoTime(t *testing.T) {
	// Were all that is left gone through at each token, each of these would take 2^33 steps.
	tail := "#" + strings.Repeat("a", api.MaxSource/2)
	for _, piece := range []string{"a ", "1 ", `"" `, "[] ", ".. ", " #\n;", "1h ", "1.5 "} {
		if list, _, errno := Cut(strings.Repeat(piece, api.MaxTokens) + tail); len(list) != api.MaxTokens+1 || errno != api.OK {
			t.Error(piece, len(list), errno)
		}
	}
	cuts(t, strings.Repeat("#\n", api.MaxSource/4)+tail[:api.MaxSource/2])
}

func TestCallsOnlyTheLayersBelow(t *testing.T) {
	files, err := filepath.Glob("*.go")
	if err != nil || len(files) == 0 {
		t.Fatal(files, err)
	}
	for _, name := range files {
		if strings.HasSuffix(name, "_test.go") {
			continue
		}
		file, err := parser.ParseFile(token.NewFileSet(), name, nil, parser.ImportsOnly)
		if err != nil {
			t.Fatal(err)
		}
		for _, spec := range file.Imports {
			path, _ := strconv.Unquote(spec.Path.Value)
			if strings.HasPrefix(path, "capstan/") && !slices.Contains([]string{"capstan/api", "capstan/scan", "capstan/num"}, path) {
				t.Errorf("%s imports %s", name, path)
			}
		}
	}
}
