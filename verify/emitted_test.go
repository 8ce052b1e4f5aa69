package verify

import (
	"slices"
	"strings"
	"testing"

	"capstan/api"
	"capstan/check"
	"capstan/code"
	"capstan/fold"
	"capstan/prune"
	"capstan/share"
)

// held wants of what the plan is made to what P23.3 says.
func held(t *testing.T, plan api.Plan) api.Program {
	t.Helper()
	p, errno := code.Emit(plan)
	if errno != api.OK {
		t.Fatalf("Emit(%s): %d", brief(plan), errno)
	}
	accepts(t, p)
	heights, _ := Heights(p)
	if len(heights) == 0 || slices.Max(heights) != p.Height {
		t.Errorf("%s: heights %s", brief(p), brief(heights))
	}
	if p.Height > 0 {
		p.Height--
		if _, fine := answers(t, p); fine {
			t.Errorf("%s is accepted with less than its height", brief(p))
		}
		p.Height++
	}
	return p
}

// throughPasses wants it of the policy's plan, and of that behind each pass and all of them.
func throughPasses(t *testing.T, text string) []api.Program {
	t.Helper()
	plan, at, errno := check.Load(text)
	if errno != api.OK {
		t.Fatal(text, at, errno)
	}
	folded, _ := fold.Plan(plan)
	pruned, _ := prune.Plan(folded)
	all, _ := share.Plan(pruned)
	shared, _ := share.Plan(plan)
	var made []api.Program
	for _, p := range []api.Plan{plan, folded, pruned, all, shared} {
		made = append(made, held(t, p))
	}
	return made
}

func TestP23_3Policies(t *testing.T) {
	for _, text := range []string{
		"policy p; replicas 1..9; decide hold;",
		"policy p; replicas 1..9; decide to 2[rep];",
		"policy p; replicas 1..9; metric cpu [pct]; decide by if(avg(cpu, 1m) > 80[pct], 1[rep], 0[rep]);",
		"policy p; replicas 1..9; metric cpu [pct]; decide by if(either(avg(cpu, 1m), 0) > 80[pct], 1[rep], 0[rep]);",
		"policy p; replicas 1..9 step 2; cooldown up 30s; cooldown down 7d; decide to 9[rep];",
		`policy p; replicas 0..1000000; guard cron("0 3 * * *") then to 1[rep]; guard cron("*/5 0-23 1,31 2-12 0") then hold; decide to 6[rep];`,
		"policy p; replicas 1..9; metric q; metric lat [ms]; decide ladder sum(q, 10s) + rank(lat, 7d, 99.9) / 1[s] { 5: to 1[rep], 10: by -2[rep], else: hold };",
		"policy p; replicas 1..9; metric q; let x = avg(q, 1m) + 1; guard x > 5 and not (x < 7) then to x * 1[rep]; decide by (x - 3) * replicas;",
		"policy p; replicas 1..9; let x = 1[s] / 1[ms]; decide to x * 1[rep];",
	} {
		throughPasses(t, text)
	}
}

// writer writes policies' texts by chance.
type writer struct{ *maker }

func (w writer) fill(depth int, forms ...string) string {
	text := forms[w.Intn(len(forms))]
	for strings.Contains(text, "N") {
		text = strings.Replace(text, "N", w.number(depth-1), 1)
	}
	for strings.Contains(text, "T") {
		text = strings.Replace(text, "T", w.truth(depth-1), 1)
	}
	return text
}

func (w writer) number(depth int) string {
	if depth <= 0 {
		return w.fill(0, "1", "2.5", "0", "sum(q, 1m)", "rank(r, 1h, 90)", "(avg(lat, 7s) / 1[s])", "x", "y")
	}
	return w.fill(depth, "(N + N)", "(N - N)", "(N * N)", "(N / N)", "min(N, N)", "max(N, N)", "-(N)", "abs(N)", "ceil(N)", "floor(N)", "either(N, N)", "if(T, N, N)", "x", "y")
}

func (w writer) truth(depth int) string {
	if depth <= 0 {
		return w.fill(0, "true", "false", `cron("* 3 * * *")`, `cron("5 * * * 1-5")`, "z")
	}
	return w.fill(depth, "(N < N)", "(N <= N)", "(N = N)", "(N > N)", "(N >= N)", "(T and T)", "(T or T)", "not (T)", "either(T, T)", "if(T, T, T)", "z")
}

func (w writer) action(depth int) string {
	if depth <= 0 {
		return "hold"
	}
	switch w.Intn(3) {
	case 0:
		return "ladder " + w.number(depth) + " { 1: " + w.action(depth-1) + ", 2: " + w.action(depth-1) + ", else: " + w.action(depth-1) + " }"
	case 1:
		return "to (" + w.number(depth) + ") * 1[rep]"
	}
	return "by (" + w.number(depth) + ") * replicas"
}

func (w writer) policy() string {
	text := "policy p; replicas 1..9; metric q; metric r; metric lat [ms]; let x = avg(q, 1m) + 1; let y = either(x / sum(r, 9s), x); let z = x < y; "
	for range w.Intn(4) {
		text += "guard " + w.truth(w.Intn(3)) + " then " + w.action(w.Intn(3)) + "; "
	}
	return text + "decide " + w.action(w.Intn(4)) + ";"
}

func TestP23_3RandomPolicies(t *testing.T) {
	w := writer{newMaker(5)}
	ops := map[int]int{}
	for range 2000 {
		for _, p := range throughPasses(t, w.policy()) {
			for _, i := range p.Code {
				ops[i.Op]++
			}
		}
		if t.Failed() {
			return
		}
	}
	for op := api.INum; op <= api.IDrop; op++ {
		if ops[op] == 0 {
			t.Error("never made:", names()[op])
		}
	}
}

// Plans as high, as wide and with as many tries open as there are nodes for.
func TestP23_3LargePlans(t *testing.T) {
	core := func(op int, parts ...api.Core) api.Core { return api.Core{Op: op, Parts: parts} }
	rep, hold := core(api.ORep), core(api.OHold)
	for _, around := range []func(api.Core) api.Core{
		func(c api.Core) api.Core { return core(api.OAdd, rep, c) },
		func(c api.Core) api.Core { return core(api.OAdd, c, rep) },
		func(c api.Core) api.Core { return core(api.OEither, rep, c) },
		func(c api.Core) api.Core { return core(api.OEither, c, rep) },
		func(c api.Core) api.Core { return core(api.OAbs, core(api.OFloor, c)) },
		func(c api.Core) api.Core { return api.Core{Op: api.OScale, N: 3, M: 7, Parts: []api.Core{c}} },
	} {
		c := rep
		for range 2047 {
			c = around(c)
		}
		held(t, api.Plan{Rules: api.Rules{Max: 1, Step: 1}, Final: core(api.OTo, c)})
	}
	wide := core(api.OLadder, rep)
	for i := range int64(2046) {
		wide.Parts = append(wide.Parts, api.Core{Op: api.ONum, N: i}, hold)
	}
	wide.Parts = append(wide.Parts, core(api.OBy, rep))
	p := held(t, api.Plan{Rules: api.Rules{Max: 1, Step: 1}, Final: wide})
	if len(p.Code) != 1+2046*6+3 || p.Height != 3 {
		t.Error(len(p.Code), p.Height)
	}
}
