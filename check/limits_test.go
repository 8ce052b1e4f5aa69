package check

import (
	"strconv"
	"strings"
	"testing"

	"capstan/api"
	"capstan/core"
)

// sized answers lets, the last of which has the name and a core of n nodes, made of the one node
// leaf by an operation on one part and one on two.
func sized(name string, n int, leaf, single, double string) string {
	if n == 1 {
		return "let " + name + " = " + leaf + "; "
	}
	ahead, form := n-1, single
	if n%2 == 1 {
		ahead, form = (n-1)/2, double
	}
	part := name + "_"
	return sized(part, ahead, leaf, single, double) + "let " + name + " = " + strings.ReplaceAll(form, "%", part) + "; "
}

// sizedNumber answers lets, the last of which has the name and is a number of n nodes.
func sizedNumber(name string, n int) string { return sized(name, n, "1", "-%", "% + %") }

func sizedTruth(name string, n int) string { return sized(name, n, "true", "not %", "% and %") }

func sizedReplicas(name string, n int) string {
	return sized(name, n, "replicas", "abs(%)", "min(%, %)")
}

// nodes answers how many nodes the cores of p have together.
func nodes(p api.Plan) int {
	sum := core.Nodes(p.Final)
	for _, g := range p.Guards {
		sum += core.Nodes(g.When) + core.Nodes(g.Then)
	}
	return sum
}

func TestP16_1LargeExample(t *testing.T) {
	text := "policy p; replicas 1..9; let x1 = 1 + 1; "
	for i := 2; i <= 11; i++ {
		last := "x" + strconv.Itoa(i-1)
		text += "let x" + strconv.Itoa(i) + " = " + last + " + " + last + "; "
	}
	loaded(t, text+"decide hold;")
	faulty(t, text+"let x12 = x11 @+ x11; decide hold;", api.ErrLarge)
	if p := loaded(t, text+"decide ladder x10 { else: hold };"); nodes(p) != 2047+2 {
		t.Error(nodes(p))
	}
}

func TestP16_1SizesOfTerms(t *testing.T) {
	head := "policy p; replicas 1..9; metric m [ms]; let one = 1; " +
		sizedNumber("n93", api.MaxCore-3) + sizedNumber("n94", api.MaxCore-2) + sizedNumber("n95", api.MaxCore-1) + sizedNumber("n96", api.MaxCore) +
		sizedTruth("t93", api.MaxCore-3) + sizedTruth("t94", api.MaxCore-2) + sizedTruth("t95", api.MaxCore-1) + sizedTruth("t96", api.MaxCore)
	for _, fits := range []string{
		"n96", "t96", "-n95", "abs(n95)", "ceil(n95)", "floor(n95)", "not t95", "n94 + 1", "1 + n94", "n94 - 1", "n94 * 1", "1 / n94", "min(n94, 1)", "max(1, n94)", "either(n94, 1)", "either(true, t94)",
		"n94 < 1", "1 <= n94", "n94 = 1", "n94 > 1", "1 >= n94", "t94 and true", "true or t94", "if(t93, 1, 1)", "if(true, n93, 1)", "if(true, 1, n93)", "if(true, true, t93)",
		"n93 * avg(m, 1s)", "n94 * count(m, 1s)", "sum(m, 1s) / n93", // a window with a factor is two nodes
	} {
		loaded(t, head+"let x = "+fits+"; decide hold;")
	}
	for _, large := range []string{
		"@-n96", "@abs(n96)", "@ceil(n96)", "@floor(n96)", "@not t96", "n95 @+ 1", "1 @+ n95", "n95 @- 1", "n95 @* 1", "1 @/ n95", "@min(n95, 1)", "@max(1, n95)", "@either(n95, 1)", "@either(true, t95)",
		"n95 @< 1", "1 @<= n95", "n95 @= 1", "n95 @> 1", "1 @>= n95", "t95 @and true", "true @or t95", "@if(t94, 1, 1)", "@if(true, n94, 1)", "@if(true, 1, n94)", "@if(true, true, t94)",
		"n94 @* avg(m, 1s)", "n95 @* count(m, 1s)", "n96 @+ n96", "@if(t96, n96, n96)", "1 + @-n96", "@-n96 + (1 + true)",
	} {
		faulty(t, head+"let x = "+large+"; decide hold;", api.ErrLarge)
		faulty(t, head+"guard "+large+" then to 1; decide hold;", api.ErrLarge)
		faulty(t, head+"decide to "+large+";", api.ErrLarge)
	}
	for text, errno := range map[string]api.Errno{ // a node's own faults ahead of its size
		"@not n96": api.ErrType, "@-t96": api.ErrType, "n96 @+ true": api.ErrType, "n96 @+ 1[s]": api.ErrDim, "n96 @* 1[s^8] * 1[s]": api.ErrLarge, "@either(n96, t96)": api.ErrType, "@if(n96, 1, 1)": api.ErrType, "@if(t96, n96, 1[s])": api.ErrDim, "t96 @and 1": api.ErrType,
	} {
		faulty(t, head+"let x = "+text+"; decide hold;", errno)
	}
}

func TestP16_1SizesOfActions(t *testing.T) {
	head := "policy p; replicas 1..9; "
	for n, lets := range map[int]string{
		api.MaxCore - 1: sizedReplicas("r", api.MaxCore-1), api.MaxCore: sizedReplicas("r", api.MaxCore), 7: sizedReplicas("r", 7),
	} {
		for _, word := range []string{"to", "by"} {
			if n < api.MaxCore {
				if p := loaded(t, head+lets+"decide "+word+" r;"); nodes(p) != n+1 {
					t.Error(n, nodes(p))
				}
				continue
			}
			faulty(t, head+lets+"decide @"+word+" r;", api.ErrLarge)
			faulty(t, head+lets+"guard true then @"+word+" r; decide hold;", api.ErrLarge)
			faulty(t, head+lets+"decide ladder 1 { 1: @"+word+" r, 1: hold, else: hold };", api.ErrLarge)
			faulty(t, head+sizedNumber("n", api.MaxCore)+"decide @"+word+" n;", api.ErrDim)
			faulty(t, head+sizedTruth("n", api.MaxCore)+"decide @"+word+" n;", api.ErrType)
		}
	}
	// A ladder is a node, what is asked, and a node for each bound (of a KNeg too), and the actions.
	lets := sizedNumber("n92", api.MaxCore-4) + sizedNumber("n95", api.MaxCore-1)
	if p := loaded(t, head+lets+"decide ladder n92 { -1: hold, else: hold };"); nodes(p) != api.MaxCore {
		t.Error(nodes(p))
	}
	faulty(t, head+lets+"decide @ladder n92 { -1: hold, else: to replicas };", api.ErrLarge)
	faulty(t, head+lets+"decide @ladder n92 { -1: hold, 1: hold, else: hold };", api.ErrLarge)
	faulty(t, head+lets+"decide @ladder n95 { else: hold };", api.ErrLarge)
	faulty(t, head+lets+"decide @ladder -n92 { -1: hold, else: hold };", api.ErrLarge)
	faulty(t, head+lets+"decide ladder n95 { 1: hold, @1: hold, else: hold };", api.ErrLadder)
	faulty(t, head+lets+"decide ladder n95 { else: @to true };", api.ErrType)
	faulty(t, head+lets+"decide ladder 1 { else: @ladder n95 { else: hold } };", api.ErrLarge)
	var rungs strings.Builder
	for i := range 2047 {
		rungs.WriteString(strconv.Itoa(i) + ": hold, ")
	}
	// 1 + 1 + 2047 * 2 nodes are as many as fit; with else one too many.
	faulty(t, head+"decide @ladder 1 { "+rungs.String()+"else: hold };", api.ErrLarge)
	fewer, _ := strings.CutSuffix(rungs.String(), "2046: hold, ")
	if p := loaded(t, head+"decide ladder -1 { "+fewer+"else: hold };"); nodes(p) != api.MaxCore || core.Nodes(p.Final) != api.MaxCore {
		t.Error(nodes(p))
	}
}

func TestP16_1SizesOfPlans(t *testing.T) {
	head := "policy p; replicas 1..9; metric m; "
	lets := head + sizedTruth("t1", 1000) + sizedTruth("t2", 1094) + sizedTruth("t3", 1095) + sizedReplicas("r", 1000) + sizedReplicas("s", 999)
	const two = "guard t1 then to r; " // 1000 + 1001
	for text, want := range map[string]int{
		two + two + "decide hold;":                                  4003,
		two + two + "guard true then hold; decide hold;":            4005,
		"guard t2 then to r; guard t1 then to s; decide hold;":      4096,
		"guard t1 then hold; guard t2 then to s; decide to abs(s);": 4096,
	} {
		if p := loaded(t, lets+text); nodes(p) != want {
			t.Errorf("%s: %d, wanted %d", text, nodes(p), want)
		}
	}
	faulty(t, lets+two+two+"@decide by s;", api.ErrLarge)
	faulty(t, lets+"guard t1 then hold; guard t2 then to s; @decide to abs(r);", api.ErrLarge)
	faulty(t, lets+two+"guard t3 then to s; @decide hold;", api.ErrLarge)
	// At the guard, at once; whatever stands behind it.
	faulty(t, lets+two+two+"@"+two+"decide hold;", api.ErrLarge)
	faulty(t, lets+two+two+"@guard t1 or t1 then hold; guard true then to 1; decide to true;", api.ErrLarge)
	faulty(t, lets+two+two+"guard @replicas then to r; decide hold;", api.ErrType)
	faulty(t, lets+two+two+"guard t1 then @to 1; decide hold;", api.ErrDim)
	faulty(t, lets+two+"guard t2 then to r; @decide hold;", api.ErrLarge)
	// When and Then count together.
	faulty(t, head+sizedTruth("t", 4090)+sizedReplicas("r", 6)+"@guard t then to r; decide hold;", api.ErrLarge)
	faulty(t, head+sizedTruth("t", 4090)+sizedReplicas("r", 5)+"guard t then to r; @decide hold;", api.ErrLarge)
	if p := loaded(t, head+sizedTruth("t", 4090)+sizedReplicas("r", 4)+"guard t then to r; decide hold;"); nodes(p) != api.MaxCore {
		t.Error(nodes(p))
	}
	// ErrLarge ahead of ErrMissing.
	faulty(t, "policy p; "+sizedTruth("t", 4095)+"guard t then hold; @decide hold;", api.ErrLarge)
	faulty(t, "policy p; "+sizedTruth("t", 4094)+"guard t then hold; @decide hold;", api.ErrMissing)
	// What lets have counts only where they are named.
	loaded(t, lets+two+two+sizedTruth("other", 4096)+"decide hold;")
}

// many answers a let with so many of a leaf.
func many(name string, n int, leaf, sign string) string {
	return "let " + name + " = " + strings.Repeat(leaf+sign, n-1) + leaf + "; "
}

func TestP16_1NumbersOfWindowsAndSchedules(t *testing.T) {
	head := "policy p; replicas 1..9; metric m; metric s [ms]; "
	for _, leaf := range []string{"sum(m, 1s)", "count(m, 1s)", "sum(s, 1s) / 1[s]", "rank(m, 2s, 5)"} {
		lets := head + many("w100", 100, leaf, " + ") + many("w156", 156, leaf, " - ") + many("w256", 256, leaf, " + ") + many("w257", 257, leaf, " + ") + "let w = " + leaf + "; let w300 = w + w257; "
		loaded(t, lets+"decide hold;")
		for _, fits := range []string{"guard w256 > 1 then hold; decide hold;", "guard w100 > 1 then to w156 * 1[rep]; decide hold;", "guard w100 > w100 then hold; guard true then hold; decide to (w + w - w / w / w) * 1[rep];", "decide to w256 * 1[rep];",
			"decide ladder w100 { 1: to w156 * 1[rep], else: hold };", "guard w100 > 1 then hold; decide ladder w { 1: hold, else: to (w100 + w) * 1[rep] };"} {
			loaded(t, lets+fits)
		}
		for _, large := range []string{"@guard w257 > 1 then hold; decide hold;", "@guard w100 > w156 + w then hold; decide hold;", "@guard w100 > w then to w156 * 1[rep]; decide hold;", "guard w256 = 1 then hold; @guard w > 1 then hold; decide to 1;",
			"guard w100 > w156 then hold; @decide to w * 1[rep];", "@decide to w300 * 1[rep];", "@decide ladder w { 1: to w156 * 1[rep], else: to w100 * 1[rep] };", "guard w = 1 then hold; guard w < 1 then hold; @decide to (w100 + w156) * 1[rep];"} {
			faulty(t, lets+large, api.ErrLarge)
		}
	}
	const leaf = `cron("* * * * *")`
	lets := head + many("c100", 100, leaf, " and ") + many("c156", 156, leaf, " or ") + many("c256", 256, leaf, " and ") + many("c257", 257, leaf, " or ") + "let c = " + leaf + "; "
	for _, fits := range []string{"guard c256 then hold; decide hold;", "guard c100 then hold; guard not c156 then hold; decide hold;", "guard c100 then to if(c156, replicas, 1[rep]); decide hold;", "decide by if(c256, replicas, 1[rep]);"} {
		if p := loaded(t, lets+fits); len(p.Crons) != api.MaxCrons {
			t.Errorf("%s: %d", fits, len(p.Crons))
		}
	}
	for _, large := range []string{"@guard c257 then hold; decide hold;", "guard c100 then hold; guard not c156 then hold; @guard c then hold; decide to 1;", "@guard c100 or c then to if(c156, replicas, 1[rep]); decide hold;", "guard c then hold; @decide by if(c256, replicas, 1[rep]);"} {
		faulty(t, lets+large, api.ErrLarge)
	}
	// Both to the full.
	p := loaded(t, head+many("w", 256, "sum(m, 1s)", " + ")+many("c", 256, leaf, " or ")+"guard c then to w * 1[rep]; decide hold;")
	if len(p.Wins) != api.MaxWins || len(p.Crons) != api.MaxCrons || nodes(p) != 511+1+511+2+1 {
		t.Error(len(p.Wins), len(p.Crons), nodes(p))
	}
	for i, c := range walked(p) {
		if c.N != int64(i)%256 {
			t.Fatal(i, c)
		}
	}
	// Windows and schedules are counted ahead of the missing bounds, too.
	faulty(t, "policy p; "+many("c", 257, leaf, " or ")+"@guard c then hold; decide hold;", api.ErrLarge)
	faulty(t, "policy p; "+many("c", 257, leaf, " or ")+"@decide to if(c, replicas, replicas);", api.ErrLarge)
}

// walked answers the windows and schedules of p's cores, in their order.
func walked(p api.Plan) []api.Core {
	var list []api.Core
	var walk func(c api.Core)
	walk = func(c api.Core) {
		if c.Op == api.OWin || c.Op == api.OCron {
			list = append(list, c)
		}
		for _, part := range c.Parts {
			walk(part)
		}
	}
	for _, g := range p.Guards {
		walk(g.When)
		walk(g.Then)
	}
	walk(p.Final)
	return list
}

func TestP16_1NumberOfMetrics(t *testing.T) {
	text := "policy p; replicas 1..9; "
	for i := range api.MaxMetrics {
		text += "metric m" + strconv.Itoa(i) + "; let n" + strconv.Itoa(i) + " = 1; "
	}
	p := loaded(t, text+"guard sum(m63, 1s) = 1 then hold; decide hold;")
	if len(p.Metrics) != api.MaxMetrics || p.Metrics[63] != "m63" || p.Wins[0].Metric != 63 {
		t.Error(p)
	}
	faulty(t, text+"@metric more; decide hold;", api.ErrLarge)
	faulty(t, text+"@metric more [ms]; metric m1; decide to 1;", api.ErrLarge)
	faulty(t, text+"@metric m0; decide hold;", api.ErrTwice)
	faulty(t, text+"@metric n63; decide hold;", api.ErrTwice)
	faulty(t, text+"@metric more [sec]; decide hold;", api.ErrUnit)
	faulty(t, text+"@metric more [s^9]; decide hold;", api.ErrBig)
}
