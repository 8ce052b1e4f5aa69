package show

import (
	"math"
	"strings"
	"testing"

	"capstan/api"
	"capstan/parse"
	"capstan/tree"
)

// lines answers the text of these lines, each ended by a new line.
func lines(list ...string) string {
	return strings.Join(list, "\n") + "\n"
}

func policy(items ...api.Item) api.Policy {
	return api.Policy{Name: "p", Items: items}
}

func decide(action api.Term) api.Item {
	return api.Item{Kind: api.IDecide, Then: action}
}

func hold() api.Term {
	return of(api.KHold)
}

// showsPolicy wants the text of the policy, that it is read back, and that no bracket is too many.
func showsPolicy(t *testing.T, p api.Policy, want string) {
	t.Helper()
	text, errno := Policy(p)
	if text != want || errno != api.OK {
		t.Errorf("Policy(%s) = %.300q, %d, wanted %.300q", brief(p), text, errno, want)
		return
	}
	policyReadBack(t, p, text)
}

// policyReadBack wants that the text is read as the policy, and as no other with a pair of brackets left out.
func policyReadBack(t *testing.T, p api.Policy, text string) {
	t.Helper()
	if read, at, errno := parse.Policy(text); errno != api.OK || !tree.SamePolicy(read, p) {
		t.Errorf("%.300q is read as %s, %d, %d, wanted %s", text, brief(read), at, errno, brief(p))
	}
	for _, less := range withoutAPair(t, text) {
		if read, _, errno := parse.Policy(less); errno == api.OK && tree.SamePolicy(read, p) {
			t.Errorf("%.300q says as much as %.300q", less, text)
		}
	}
}

// showsItem wants the text of the item, as a policy's only one beside its end, and between others.
func showsItem(t *testing.T, item api.Item, line string) {
	t.Helper()
	end := decide(hold())
	showsPolicy(t, policy(item, end), lines("policy p;", line, "decide hold;"))
	other := api.Item{Kind: api.IUp, A: 30}
	showsPolicy(t, policy(other, item, item, other, end), lines("policy p;", "cooldown up 30s;", line, line, "cooldown up 30s;", "decide hold;"))
}

// showsAction wants the text of the action: of decide, of a guard, in a rung and behind else.
func showsAction(t *testing.T, action api.Term, text string) {
	t.Helper()
	showsPolicy(t, policy(decide(action)), lines("policy p;", "decide "+text+";"))
	guard := api.Item{Kind: api.IGuard, Term: name("x"), Then: action}
	showsItem(t, guard, "guard x then "+text+";")
	showsPolicy(t, policy(decide(of(api.KLadder, name("x"), number(0, ""), action, action))), lines("policy p;", "decide ladder x { 0: "+text+", else: "+text+" };"))
}

func TestP14_1PolicyExamples(t *testing.T) {
	web := api.Policy{Name: "web", Items: []api.Item{{Kind: api.IReplicas, A: 2000000, B: 40000000, C: 4000000, At: 12}, {Kind: api.IDecide, Then: api.Term{Kind: api.KHold, At: 42}, At: 35}}}
	showsPolicy(t, web, "policy web;\nreplicas 2..40 step 4;\ndecide hold;\n")
	read, _, _ := parse.Policy("policy web; replicas 2..40 step 4; decide hold; ")
	showsPolicy(t, read, "policy web;\nreplicas 2..40 step 4;\ndecide hold;\n")
	rung := of(api.KLadder, name("load"), number(500000, ""), of(api.KBy, of(api.KNeg, number(1000000, "rep"))), hold())
	showsAction(t, rung, "ladder load { 0.5: by -1[rep], else: hold }")
}

func TestP14_1TheShortestPolicy(t *testing.T) {
	showsPolicy(t, policy(decide(hold())), "policy p;\ndecide hold;\n")
	for _, text := range []string{"_", "web_1", "é", strings.Repeat("é", 32), "Policy"} {
		showsPolicy(t, api.Policy{Name: text, Items: []api.Item{decide(hold())}}, "policy "+text+";\ndecide hold;\n")
	}
}

func TestP14_1Metrics(t *testing.T) {
	for _, text := range []string{"cpu", "_", "é", "Metric", strings.Repeat("a", 32)} {
		showsItem(t, api.Item{Kind: api.IMetric, Name: text}, "metric "+text+";")
		for _, unit := range []string{"pct", "req/s", " ", "(", "{", "#", ";", "\t\r", "é", strings.Repeat("\U0010ffff", 64)} {
			showsItem(t, api.Item{Kind: api.IMetric, Name: text, Unit: unit}, "metric "+text+" ["+unit+"];")
		}
	}
}

func TestP14_1Replicas(t *testing.T) {
	numbers := map[int64]string{0: "0", 1: "0.000001", 500000: "0.5", 1000000: "1", 2500000: "2.5", 40000000: "40", 1000000000000: "1000000", math.MaxInt64: "9223372036854.775807"}
	for a, low := range numbers {
		for b, high := range numbers {
			showsItem(t, api.Item{Kind: api.IReplicas, A: a, B: b}, "replicas "+low+".."+high+";")
			for c, step := range numbers {
				if c != 0 {
					showsItem(t, api.Item{Kind: api.IReplicas, A: a, B: b, C: c}, "replicas "+low+".."+high+" step "+step+";")
				}
			}
		}
	}
}

func TestP14_1Cooldowns(t *testing.T) {
	for seconds, span := range spans {
		showsItem(t, api.Item{Kind: api.IUp, A: seconds}, "cooldown up "+span+";")
		showsItem(t, api.Item{Kind: api.IDown, A: seconds}, "cooldown down "+span+";")
	}
}

func TestP14_1LetsAndGuards(t *testing.T) {
	for kind, x := range alone() {
		showsItem(t, api.Item{Kind: api.ILet, Name: "y", Term: x.term}, "let y = "+x.text+";")
		showsItem(t, api.Item{Kind: api.IGuard, Term: x.term, Then: hold()}, "guard "+x.text+" then hold;")
		for outer := range patterns { // brackets within them, and none about them
			term, text := put(outer, arity(outer)-1, x.term, kind, x.text)
			showsItem(t, api.Item{Kind: api.ILet, Name: "y", Term: term}, "let y = "+text+";")
			showsItem(t, api.Item{Kind: api.IGuard, Term: term, Then: of(api.KTo, term)}, "guard "+text+" then to "+text+";")
		}
	}
	for _, text := range []string{"_", "é", "Let", strings.Repeat("é", 32)} {
		showsItem(t, api.Item{Kind: api.ILet, Name: text, Term: name("a")}, "let "+text+" = a;")
	}
}

func TestP14_1Actions(t *testing.T) {
	showsAction(t, hold(), "hold")
	for kind, x := range alone() {
		showsAction(t, of(api.KTo, x.term), "to "+x.text)
		showsAction(t, of(api.KBy, x.term), "by "+x.text)
		showsAction(t, of(api.KLadder, x.term, hold()), "ladder "+x.text+" { else: hold }")
		for outer := range patterns {
			term, text := put(outer, 0, x.term, kind, x.text)
			showsAction(t, of(api.KTo, term), "to "+text)
			showsAction(t, of(api.KBy, term), "by "+text)
			showsAction(t, of(api.KLadder, term, hold()), "ladder "+text+" { else: hold }")
		}
	}
}

func TestP14_1LaddersWithRungs(t *testing.T) {
	bounds := []api.Term{number(0, ""), number(1, ""), number(500000, "req/s"), number(math.MaxInt64, ""), number(2000000, " ")}
	texts := []string{"0", "0.000001", "0.5[req/s]", "9223372036854.775807", "2[ ]"}
	actions := []api.Term{hold(), of(api.KTo, number(1000000, "rep")), of(api.KBy, of(api.KNeg, name("a"))), of(api.KLadder, name("y"), of(api.KTo, name("z")))}
	told := []string{"hold", "to 1[rep]", "by -a", "ladder y { else: to z }"}
	for i, bound := range bounds {
		for j, action := range actions {
			showsAction(t, of(api.KLadder, name("x"), bound, action, hold()), "ladder x { "+texts[i]+": "+told[j]+", else: hold }")
			below := of(api.KNeg, bound)
			showsAction(t, of(api.KLadder, name("x"), below, action, action), "ladder x { -"+texts[i]+": "+told[j]+", else: "+told[j]+" }")
			showsAction(t, of(api.KLadder, name("x"), below, action, bound, hold(), actions[1]), "ladder x { -"+texts[i]+": "+told[j]+", "+texts[i]+": hold, else: to 1[rep] }")
		}
	}
	for rungs := range 40 {
		parts, text := []api.Term{name("x")}, "ladder x { "
		for i := range rungs {
			parts = append(parts, bounds[i%len(bounds)], actions[i%len(actions)])
			text += texts[i%len(bounds)] + ": " + told[i%len(actions)] + ", "
		}
		showsAction(t, of(api.KLadder, append(parts, hold())...), text+"else: hold }")
	}
}

func TestP14_1LaddersWithinLadders(t *testing.T) {
	inner, text := of(api.KBy, name("a")), "by a"
	for i := range 20 {
		if i%2 == 0 {
			inner, text = of(api.KLadder, name("x"), number(1000000, ""), inner, hold()), "ladder x { 1: "+text+", else: hold }"
		} else {
			inner, text = of(api.KLadder, name("x"), number(1000000, ""), hold(), inner), "ladder x { 1: hold, else: "+text+" }"
		}
		showsAction(t, inner, text)
	}
	both := of(api.KLadder, name("x"), of(api.KLadder, name("y"), hold()))
	both = of(api.KLadder, name("z"), of(api.KNeg, number(0, "")), both, number(0, ""), both, both)
	showsAction(t, both, "ladder z { -0: ladder x { else: ladder y { else: hold } }, 0: ladder x { else: ladder y { else: hold } }, else: ladder x { else: ladder y { else: hold } } }")
}

// all answers a policy with each kind of item, and its text.
func all() (api.Policy, string) {
	load := of(api.KMul, of(api.KSub, over(api.KAvg, "cpu", 60, 0), of(api.KAdd, number(500000, "pct"), name("q"))), number(2000000, ""))
	ladder := of(api.KLadder, name("load"), number(500000, ""), of(api.KBy, of(api.KNeg, number(1000000, "rep"))), hold())
	p := api.Policy{Name: "web", Items: []api.Item{
		{Kind: api.IMetric, Name: "cpu", Unit: "pct"},
		{Kind: api.IMetric, Name: "q"},
		{Kind: api.IReplicas, A: 2000000, B: 40000000, C: 4000000},
		{Kind: api.IReplicas, A: 2000000, B: 40000000},
		{Kind: api.IUp, A: 30},
		{Kind: api.IDown, A: 300},
		{Kind: api.ILet, Name: "load", Term: load},
		{Kind: api.IGuard, Term: of(api.KAnd, cron("0 3 * * *"), of(api.KNot, of(api.KOr, name("a"), of(api.KFalse)))), Then: ladder},
		{Kind: api.IDecide, Then: ladder},
	}}
	return p, lines("policy web;", "metric cpu [pct];", "metric q;", "replicas 2..40 step 4;", "replicas 2..40;", "cooldown up 30s;", "cooldown down 5m;",
		"let load = (avg(cpu, 1m) - (0.5[pct] + q)) * 2;", `guard cron("0 3 * * *") and not (a or false) then ladder load { 0.5: by -1[rep], else: hold };`,
		"decide ladder load { 0.5: by -1[rep], else: hold };")
}

func TestP14_1APolicyOfAll(t *testing.T) {
	p, text := all()
	showsPolicy(t, p, text)
	// The items stand in the order in which they were, whatever their kinds.
	told := strings.SplitAfter(text, "\n")
	for i := range 8 {
		for j := range i {
			swapped := tree.BarePolicy(p)
			swapped.Items[i], swapped.Items[j] = swapped.Items[j], swapped.Items[i]
			lines := strings.SplitAfter(text, "\n")
			lines[i+1], lines[j+1] = told[j+1], told[i+1]
			showsPolicy(t, swapped, strings.Join(lines, ""))
		}
	}
}

func TestP14_2WhatWasReadIsToldInOneForm(t *testing.T) {
	for text, want := range map[string]string{
		"policy  p ;decide hold ; # so\n":                              "policy p;\ndecide hold;\n",
		"policy p;metric a[];metric b[s];decide to((1));":              "policy p;\nmetric a;\nmetric b [s];\ndecide to 1;\n",
		"policy p;replicas 1.50..2.0 step 0;decide by 1[];":            "policy p;\nreplicas 1.5..2;\ndecide by 1;\n",
		"policy p;cooldown up 90s;cooldown down 24h;decide hold;":      "policy p;\ncooldown up 1m30s;\ncooldown down 1d;\ndecide hold;\n",
		"policy p;let x=(a)-(b*c);guard(((a)))then hold;decide\nhold;": "policy p;\nlet x = a - b * c;\nguard a then hold;\ndecide hold;\n",
		"policy p;decide ladder(a){- 1[s]:hold,else:to-(a)};":          "policy p;\ndecide ladder a { -1[s]: hold, else: to -a };\n",
	} {
		p, _, errno := parse.Policy(text)
		if errno != api.OK {
			t.Error(text, errno)
		}
		showsPolicy(t, p, want)
	}
	for text, want := range map[string]string{"((a))": "a", "(a)+(b)": "a + b", "a-(b)-(c-d)": "a - b - (c - d)", "sum(q,60s)": "sum(q, 1m)", "1.500000[s]": "1.5[s]", "-(1)": "-1", "not(a)": "not a", "if((a),(b),(c))": "if(a, b, c)", "rank(q,60m,95.0)": "rank(q, 1h, 95)"} {
		x, _, errno := parse.Expr(text)
		if errno != api.OK {
			t.Error(text, errno)
		}
		shows(t, x, want)
	}
}
