package parse

import (
	"strconv"
	"strings"
	"testing"

	"capstan/api"
)

// readsPolicy wants that s is the policy of that name with these items.
func readsPolicy(t *testing.T, s, name string, items ...api.Item) {
	t.Helper()
	want := api.Policy{Name: name, Items: items}
	if p, at, errno := Policy(s); !samePolicy(p, want) || at != 0 || errno != api.OK {
		t.Errorf("Policy(%.200q) = %.300v, %d, %d, wanted %.300v", s, p, at, errno, want)
	}
	if len(s) < 400 {
		agrees(t, s)
	}
}

// failsPolicy wants the error of the policy s, its place, and no policy beside it.
func failsPolicy(t *testing.T, s string, at int, errno api.Errno) {
	t.Helper()
	if p, a, e := Policy(s); !samePolicy(p, api.Policy{}) || a != at || e != errno {
		t.Errorf("Policy(%.200q) = %.300v, %d, %d, wanted %d, %d", s, p, a, e, at, errno)
	}
	if len(s) < 400 {
		agrees(t, s)
	}
}

// hold answers the decision to hold, at a place.
func hold(at int) api.Item {
	return api.Item{Kind: api.IDecide, At: at, Then: of(api.KHold, at+7)}
}

func TestP13_1Examples(t *testing.T) {
	readsPolicy(t, "policy web; replicas 2..40 step 4; decide hold;", "web",
		api.Item{Kind: api.IReplicas, A: 2000000, B: 40000000, C: 4000000, At: 12}, hold(35))
	failsPolicy(t, "policy min;", 7, api.ErrSyntax)
	failsPolicy(t, "policy min; ", 7, api.ErrSyntax)
	for i, s := range []string{
		"policy p; replicas 1..9; decide to 2[rep];",
		"policy p; replicas 1..9; metric cpu [pct]; decide by if(avg(cpu, 1m) > 80[pct], 1[rep], 0[rep]);",
		"policy p; replicas 1..9 step 2; cooldown up 30s; decide to 9[rep];",
		`policy p; replicas 1..9; guard cron("0 3 * * *") then to 1[rep]; decide to 6[rep];`,
		"policy p; replicas 1..9; metric q; decide ladder sum(q, 10s) { 5: to 1[rep], 10: to 2[rep], else: hold };",
		"policy p; replicas 1..9; let x = 1[s] / 1[ms]; decide to x * 1[rep];",
	} {
		if errno, _ := agrees(t, s); errno != api.OK {
			t.Error(i, errno)
		}
	}
}

// itemsOfEach answers an item of each form, by its text, as it is read at 0.
func itemsOfEach() map[string]api.Item {
	a := name("a", 0)
	return map[string]api.Item{
		"metric cpu;":                {Kind: api.IMetric, Name: "cpu"},
		"metric cpu [pct];":          {Kind: api.IMetric, Name: "cpu", Unit: "pct"},
		"metric é[ # ];":             {Kind: api.IMetric, Name: "é", Unit: " # "},
		"metric cpu [];":             {Kind: api.IMetric, Name: "cpu"},
		"replicas 2..40;":            {Kind: api.IReplicas, A: 2000000, B: 40000000},
		"replicas 0 .. 0 step 0;":    {Kind: api.IReplicas},
		"replicas 9..1.5 step 0.25;": {Kind: api.IReplicas, A: 9000000, B: 1500000, C: 250000},
		"cooldown up 30s;":           {Kind: api.IUp, A: 30},
		"cooldown down 7d;":          {Kind: api.IDown, A: 604800},
		"let x = a;":                 {Kind: api.ILet, Name: "x", Term: moved(a, 8)},
		"let x=a=a;":                 {Kind: api.ILet, Name: "x", Term: of(api.KEq, 7, moved(a, 6), moved(a, 8))},
		"guard a then hold;":         {Kind: api.IGuard, Term: moved(a, 6), Then: of(api.KHold, 13)},
		"guard(a)then to a;":         {Kind: api.IGuard, Term: moved(a, 6), Then: of(api.KTo, 13, moved(a, 16))},
		"guard a and a then by -a;":  {Kind: api.IGuard, Term: of(api.KAnd, 8, moved(a, 6), moved(a, 12)), Then: of(api.KBy, 19, of(api.KNeg, 22, moved(a, 23)))},
		"guard a then ladder a { 1: hold, else: to a };": {Kind: api.IGuard, Term: moved(a, 6),
			Then: of(api.KLadder, 13, moved(a, 20), num(1000000, "", 24), of(api.KHold, 27), of(api.KTo, 39, moved(a, 42)))},
	}
}

// movedItem answers the item as it is read where that many bytes more stand ahead of it.
func movedItem(item api.Item, by int) api.Item {
	item.At += by
	if item.Term.Kind != 0 {
		item.Term = moved(item.Term, by)
	}
	if item.Then.Kind != 0 {
		item.Then = moved(item.Then, by)
	}
	return item
}

func TestP13_1NoItem(t *testing.T) {
	readsPolicy(t, "policy p;decide hold;", "p", hold(9))
	readsPolicy(t, "policy p; decide hold;", "p", hold(10))
	readsPolicy(t, " # é\npolicy Été9 ;\tdecide hold ; # x", "Été9", hold(22))
	long := strings.Repeat("é", 32)
	readsPolicy(t, "policy "+long+";decide hold;", long, hold(72))
}

func TestP13_1EachItem(t *testing.T) {
	for s, item := range itemsOfEach() {
		readsPolicy(t, "policy p;"+s+"decide hold;", "p", movedItem(item, 9), hold(9+len(s)))
		readsPolicy(t, "policy p; "+s+"\n"+s+"decide hold;", "p", movedItem(item, 10), movedItem(item, 11+len(s)), hold(11+2*len(s)))
		for other, more := range itemsOfEach() {
			readsPolicy(t, "policy p; "+s+" "+other+" decide hold;", "p", movedItem(item, 10), movedItem(more, 11+len(s)), hold(12+len(s)+len(other)))
		}
		text := "policy p; " + s + " decide hold;"
		failsPolicy(t, "policy p; "+s, 10+len(s), api.ErrSyntax)
		failsPolicy(t, strings.Replace(text, "; decide", " decide", 1), 9+len(s)+1, api.ErrSyntax)
		failsPolicy(t, strings.Replace(text, "; decide", ";; decide", 1), 10+len(s), api.ErrSyntax)
		failsPolicy(t, text+s, len(text), api.ErrSyntax)
		failsPolicy(t, s+text, 0, api.ErrSyntax)
	}
}

func TestP13_1ManyItems(t *testing.T) {
	for s, item := range itemsOfEach() {
		text := "policy p;"
		var want []api.Item
		for range 300 {
			want = append(want, movedItem(item, len(text)))
			text += s
		}
		readsPolicy(t, text+"decide hold;", "p", append(want, hold(len(text)))...)
	}
}

func TestP13_1ItemsInAnyOrder(t *testing.T) {
	texts := []string{}
	for s := range itemsOfEach() {
		texts = append(texts, s)
	}
	for turn := range texts {
		text := "policy p;"
		var want []api.Item
		for i := range texts {
			s := texts[(i*(turn|1)+turn)%len(texts)]
			want = append(want, movedItem(itemsOfEach()[s], len(text)))
			text += s
		}
		readsPolicy(t, text+"decide hold;", "p", append(want, hold(len(text)))...)
	}
}

func TestP13_1WrongItems(t *testing.T) {
	for s, at := range map[string]int{
		"metric ;": 7, "metric 1;": 7, "metric a b;": 9, "metric a, b;": 8, "metric [s];": 7, "metric a [s] [s];": 13, "metric a s;": 9, "metric a \"s\";": 9, "metric \"a\";": 7, "metric 5m;": 7,
		"replicas;": 8, "replicas 1;": 10, "replicas 1..;": 12, "replicas ..9;": 9, "replicas 1,9;": 10, "replicas 1-9;": 10, "replicas -1..9;": 9, "replicas 1..-9;": 12, "replicas 1[rep]..9;": 10, "replicas 1..9[rep];": 13, "replicas a..9;": 9,
		"replicas 1..a;": 12, "replicas 1..9 step;": 18, "replicas 1..9 step -1;": 19, "replicas 1..9 step 1s;": 19, "replicas 1..9 step 1[s];": 20, "replicas 1..9 step 1 step 1;": 21, "replicas 1..9 2;": 14, "replicas step 2 1..9;": 9, "replicas 1s..9;": 9, "replicas (1)..9;": 9,
		"cooldown;": 8, "cooldown 5s;": 9, "cooldown up;": 11, "cooldown down;": 13, "cooldown up 5;": 12, "cooldown up down 5s;": 12, "cooldown down up 5s;": 14, "cooldown up -5s;": 12, "cooldown up 5s 5s;": 15, "cooldown up 5s, down 5s;": 14, "cooldown sideways 5s;": 9, "cooldown up a;": 12,
		"let;": 3, "let x;": 5, "let x = ;": 8, "let = 1;": 4, "let 1 = 1;": 4, "let x 1;": 6, "let x == 1;": 7, "let x <= 1;": 6, "let x : 1;": 6, "let x = hold;": 8, "let x = to 1;": 8, "let x = 1 2;": 10, "let x = 5m;": 8, "let x, y = 1;": 5, "let x = 1, y = 2;": 9, "let (x) = 1;": 4,
		"guard;": 5, "guard then hold;": 6, "guard a;": 7, "guard a hold;": 8, "guard a then;": 12, "guard a then a;": 13, "guard a then hold to 1;": 18, "guard hold then hold;": 6, "guard a then hold then hold;": 18, "guard a then (hold);": 13, "guard a else hold;": 8, "guard a then 1;": 13,
		"policy q;": 0, "step 1;": 0, "up 5s;": 0, "down 5s;": 0, "hold;": 0, "to 1;": 0, "by 1;": 0, "ladder 1 { else: hold };": 0, "else;": 0, "then hold;": 0, "x = 1;": 0, "1;": 0, "(let x = 1);": 0, "{ let x = 1; }": 0, "; let x = 1;": 0, "5m;": 0, "\"metric\" a;": 0, "[metric] a;": 0, "Metric a;": 0, "metrics a;": 0,
	} {
		failsPolicy(t, "policy p; "+s+" decide hold;", 10+at, api.ErrSyntax)
		failsPolicy(t, "policy p; let y = 1; "+s+" decide hold;", 21+at, api.ErrSyntax)
	}
}

func TestP13_1TheBeginning(t *testing.T) {
	for s, at := range map[string]int{
		"": 0, "p": 0, "policy": 6, "policy ": 7, "policy;": 6, "policy p": 8, "policy p decide hold;": 9, "policy p, decide hold;": 8, "policy p;": 9, "policy p; ": 10, "policy 1; decide hold;": 7, "policy \"p\"; decide hold;": 7, "policy [p]; decide hold;": 7,
		"policy policy; decide hold;": 7, "policy p q; decide hold;": 9, "policy p; q": 10, "decide hold;": 0, "Policy p; decide hold;": 0, "\"policy\" p; decide hold;": 0, "; policy p; decide hold;": 0, "(policy p; decide hold;)": 0, "policy p;; decide hold;": 9, "policy 1h; decide hold;": 7,
		"policy p{ decide hold; }": 8, "policy p: decide hold;": 8, "policy (p); decide hold;": 7, "a + b": 0, "policy -p; decide hold;": 7, "policy p [s]; decide hold;": 9,
	} {
		failsPolicy(t, s, at, api.ErrSyntax)
	}
	failsPolicy(t, "policy "+strings.Repeat("a", 33)+"; decide hold;", 7, api.ErrToken)
}

func TestP13_1TheEnd(t *testing.T) {
	whole := "policy p; decide hold;"
	for _, more := range []string{"x", ";", "decide hold;", "metric a;", "let x = 1;", whole, "hold", "1", "5m", "(", "{", "}", ")", "else", `"a"`, "[a]", "replicas 1..9;"} {
		failsPolicy(t, whole+more, len(whole), api.ErrSyntax)
		failsPolicy(t, whole+" # @\n "+more+" @", len(whole)+6, api.ErrSyntax)
	}
	failsPolicy(t, whole+"@", len(whole), api.ErrToken)
	failsPolicy(t, whole+" 01", len(whole)+1, api.ErrNumber)
	for s, at := range map[string]int{"policy p; decide": 16, "policy p; decide;": 16, "policy p; decide hold": 21, "policy p; decide hold ": 22, "policy p; decide hold decide hold;": 22, "policy p; decide a;": 17, "policy p; decide hold, hold;": 21, "policy p; decide (hold);": 17,
		"policy p; decide then hold;": 17, "policy p; decide hold hold;": 22, "policy p; decide hold 1;": 22, "policy p; decide \"hold\";": 17, "policy p; decide hold; decide hold;": 23} {
		failsPolicy(t, s, at, api.ErrSyntax)
	}
}

// decides wants that the text, behind decide, is this action.
func decides(t *testing.T, s string, want api.Term) {
	t.Helper()
	readsPolicy(t, "policy p; decide "+s+";", "p", api.Item{Kind: api.IDecide, At: 10, Then: moved(want, 17)})
	before := "policy p; guard x then "
	after := before + s + "; "
	readsPolicy(t, after+"decide hold;", "p", api.Item{Kind: api.IGuard, At: 10, Term: name("x", 16), Then: moved(want, len(before))}, hold(len(after)))
	// Within a ladder, as a rung's action and as the last one.
	ladder := "policy p; decide ladder x { 1: " + s + ", else: "
	readsPolicy(t, ladder+s+" };", "p", api.Item{Kind: api.IDecide, At: 10,
		Then: of(api.KLadder, 17, name("x", 24), num(1000000, "", 28), moved(want, 31), moved(want, len(ladder)))})
}

func TestP13_1Actions(t *testing.T) {
	a := name("a", 0)
	decides(t, "hold", of(api.KHold, 0))
	decides(t, "to a", of(api.KTo, 0, moved(a, 3)))
	decides(t, "by a", of(api.KBy, 0, moved(a, 3)))
	decides(t, "to(a)", of(api.KTo, 0, moved(a, 3)))
	decides(t, "by -1[rep]", of(api.KBy, 0, of(api.KNeg, 3, num(1000000, "rep", 4))))
	decides(t, "to a or a", of(api.KTo, 0, of(api.KOr, 5, moved(a, 3), moved(a, 8))))
	for s, term := range oneOfEach() {
		decides(t, "to "+s, of(api.KTo, 0, moved(term, 3)))
		decides(t, "by "+s, of(api.KBy, 0, moved(term, 3)))
		decides(t, "ladder "+s+"{else:hold}", of(api.KLadder, 0, moved(term, 7), of(api.KHold, len(s)+13)))
	}
}

func TestP13_1WrongActions(t *testing.T) {
	for s, at := range map[string]int{
		"to": 2, "by": 2, "to to a": 3, "to hold": 3, "by by a": 3, "to by a": 3, "to a by a": 5, "to ;": 3, "hold a": 5, "hold(a)": 4, "hold hold": 5, "up 1": 0, "1": 0, "a": 0, "(hold)": 0, "{hold}": 0, "-1": 0, "if(a,hold,hold)": 0, "not hold": 0, "to 5m": 3, "to a then hold": 5, "to -": 4, "hold[s]": 4, "to a[s]": 4,
	} {
		failsPolicy(t, "policy p; decide "+s+";", 17+at, api.ErrSyntax)
		failsPolicy(t, "policy p; guard x then "+s+"; decide hold;", 23+at, api.ErrSyntax)
		failsPolicy(t, "policy p; decide ladder x { 1: "+s+", else: hold };", 31+at, api.ErrSyntax)
		failsPolicy(t, "policy p; decide ladder x { else: "+s+"};", 34+at, api.ErrSyntax)
	}
}

func TestP13_1Ladders(t *testing.T) {
	a, stay := name("a", 0), of(api.KHold, 0)
	decides(t, "ladder a { else: hold }", of(api.KLadder, 0, moved(a, 7), moved(stay, 17)))
	decides(t, "ladder a{else:hold}", of(api.KLadder, 0, moved(a, 7), moved(stay, 14)))
	decides(t, "ladder a { 1: hold, else: to a }", of(api.KLadder, 0, moved(a, 7), num(1000000, "", 11), moved(stay, 14), of(api.KTo, 26, moved(a, 29))))
	decides(t, "ladder a { -1: hold, 2[pct]: to a, -0.5 [s]: by a, else: hold }", of(api.KLadder, 0, moved(a, 7),
		of(api.KNeg, 11, num(1000000, "", 12)), moved(stay, 15), num(2000000, "pct", 21), of(api.KTo, 29, moved(a, 32)),
		of(api.KNeg, 35, num(500000, "s", 36)), of(api.KBy, 45, moved(a, 48)), moved(stay, 57)))
	decides(t, "ladder a+a < a { 3: hold, 3: hold, 1: hold, else: hold }", of(api.KLadder, 0, of(api.KLess, 11, of(api.KAdd, 8, moved(a, 7), moved(a, 9)), moved(a, 13)),
		num(3000000, "", 17), moved(stay, 20), num(3000000, "", 26), moved(stay, 29), num(1000000, "", 35), moved(stay, 38), moved(stay, 50)))
	decides(t, "ladder a { -0: ladder a { else: hold }, else: ladder a { 9: hold, else: hold } }", of(api.KLadder, 0, moved(a, 7),
		of(api.KNeg, 11, num(0, "", 12)), of(api.KLadder, 15, moved(a, 22), moved(stay, 32)),
		of(api.KLadder, 46, moved(a, 53), num(9000000, "", 57), moved(stay, 60), moved(stay, 72))))
	many, want := "ladder a { ", of(api.KLadder, 0, moved(a, 7))
	for i := range 1000 {
		want.Parts = append(want.Parts, num(int64(i)*1000000, "", len(many)))
		many += strconv.Itoa(i) + ": hold, "
		want.Parts = append(want.Parts, moved(stay, len(many)-6))
	}
	want.Parts = append(want.Parts, moved(stay, len(many)+6))
	decides(t, many+"else: hold }", want)
}

func TestP13_1WrongLadders(t *testing.T) {
	for s, at := range map[string]int{
		"ladder": 6, "ladder { else: hold }": 7, "ladder a": 8, "ladder a else: hold": 9, "ladder a ( else: hold )": 9, "ladder a { }": 11, "ladder a { hold }": 11, "ladder a { else hold }": 16, "ladder a { else: }": 17, "ladder a { else: hold": 21, "ladder a { else: hold, }": 21, "ladder a { else: hold ; }": 22,
		"ladder a { 1: hold }": 19, "ladder a { 1: hold, }": 20, "ladder a { 1: hold else: hold }": 19, "ladder a { 1 hold, else: hold }": 13, "ladder a { 1:, else: hold }": 13, "ladder a { : hold, else: hold }": 11, "ladder a { , else: hold }": 11, "ladder a { 1: hold,, else: hold }": 19, "ladder a { 1: hold; else: hold }": 18,
		"ladder a { else: hold, 1: hold }": 21, "ladder a { else: hold, else: hold }": 21, "ladder a { b: hold, else: hold }": 11, "ladder a { (1): hold, else: hold }": 11, "ladder a { - -1: hold, else: hold }": 13, "ladder a { -: hold, else: hold }": 12, "ladder a { not 1: hold, else: hold }": 11,
		"ladder a { +1: hold, else: hold }": 11, "ladder a { 1+1: hold, else: hold }": 12, "ladder a { 1[s][s]: hold, else: hold }": 15, "ladder a { [s]: hold, else: hold }": 11, "ladder a { 5m: hold, else: hold }": 11, "ladder a { 1..2: hold, else: hold }": 12, "ladder a { < 1: hold, else: hold }": 11, "ladder a { -b: hold, else: hold }": 12,
		"ladder a { 1, 2: hold, else: hold }": 12, "ladder a { 1: 2: hold, else: hold }": 14, "ladder a { true: hold, else: hold }": 11, "ladder a { else: hold } }": 24, "ladder a { { else: hold } }": 11, "ladder a { else: hold )": 22, "ladder a { else: hold } { else: hold }": 24, "ladder a { else: hold } to 1": 24, "ladder hold { else: hold }": 7,
		"ladder a, b { else: hold }": 8, "ladder ladder a { else: hold } { else: hold }": 7, "ladder (a { else: hold })": 10, "ladder a \"{\" else: hold }": 9, "ladder a { \"else\": hold }": 11, "ladder a { else \":\" hold }": 16, "ladder a { 1[: hold], else: hold }": 20,
	} {
		failsPolicy(t, "policy p; decide "+s+";", 17+at, api.ErrSyntax)
		failsPolicy(t, "policy p; guard x then "+s+"; decide hold;", 23+at, api.ErrSyntax)
	}
}

func TestP13_1ReservedWordsAsNames(t *testing.T) {
	for _, word := range strings.Fields(reserved) {
		failsPolicy(t, "policy "+word+"; decide hold;", 7, api.ErrSyntax)
		failsPolicy(t, "policy p; metric "+word+"; decide hold;", 17, api.ErrSyntax)
		failsPolicy(t, "policy p; let "+word+" = 1; decide hold;", 14, api.ErrSyntax)
		failsPolicy(t, "policy p; let x = sum("+word+", 1m); decide hold;", 22, api.ErrSyntax)
		for _, like := range []string{word + "_", word + "1", strings.ToUpper(word)} {
			head := "policy " + like + ";"
			readsPolicy(t, head+"metric "+like+";let "+like+"="+like+";decide hold;", like, api.Item{Kind: api.IMetric, Name: like, At: len(head)},
				api.Item{Kind: api.ILet, Name: like, Term: name(like, len(head)+13+2*len(like)), At: len(head) + 8 + len(like)}, hold(len(head)+14+3*len(like)))
		}
	}
}
