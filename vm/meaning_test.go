package vm

import (
	"slices"
	"strings"
	"testing"

	"capstan/api"
	"capstan/check"
	"capstan/code"
	"capstan/core"
	"capstan/fold"
	"capstan/mean"
	"capstan/prune"
	"capstan/share"
)

// planner makes formed plans by chance, always the same ones from one seed.
type planner struct {
	*maker
	numbers, truths []api.Core // OMemos
}

func (m *planner) node(parts []api.Core, ops ...int) api.Core {
	return api.Core{Op: ops[m.Intn(len(ops))], Parts: parts}
}

func (m *planner) number(depth int) api.Core {
	kind := m.Intn(10)
	if depth <= 0 {
		kind = m.Intn(4)
	}
	switch kind {
	case 0:
		return api.Core{Op: api.ONum, N: (m.Int63n(7) - 3) * api.One / 2}
	case 1:
		return api.Core{Op: api.OWin, N: m.Int63n(3)}
	case 2:
		if m.Intn(3) == 0 {
			return api.Core{Op: api.OFail, N: 1 + m.Int63n(3), M: 1}
		}
		return api.Core{Op: api.ORep}
	case 3:
		if len(m.numbers) > 0 {
			return m.numbers[m.Intn(len(m.numbers))]
		}
		return api.Core{Op: api.OWin, N: m.Int63n(3)}
	case 4:
		return m.node([]api.Core{m.number(depth - 1)}, api.ONeg, api.OAbs, api.OCeil, api.OFloor)
	case 5:
		return api.Core{Op: api.OScale, N: m.Int63n(4) * api.One / 2, M: 1 + m.Int63n(4), Parts: []api.Core{m.number(depth - 1)}}
	case 6:
		return m.node([]api.Core{m.truth(depth - 1), m.number(depth - 1), m.number(depth - 1)}, api.OIf)
	}
	return m.node([]api.Core{m.number(depth - 1), m.number(depth - 1)}, api.OAdd, api.OSub, api.OMul, api.ODiv, api.OMin, api.OMax, api.OEither, api.OEither)
}

func (m *planner) truth(depth int) api.Core {
	kind := m.Intn(9)
	if depth <= 0 {
		kind = m.Intn(4)
	}
	switch kind {
	case 0:
		return api.Core{Op: api.OBool, N: m.Int63n(2)}
	case 1:
		return api.Core{Op: api.OCron, N: m.Int63n(3)}
	case 2:
		if len(m.truths) > 0 {
			return m.truths[m.Intn(len(m.truths))]
		}
		return api.Core{Op: api.OCron, N: m.Int63n(3)}
	case 3:
		if m.Intn(3) == 0 {
			return api.Core{Op: api.OFail, N: 1 + m.Int63n(3), M: 2}
		}
		return api.Core{Op: api.OCron, N: m.Int63n(3)}
	case 4:
		return m.node([]api.Core{m.truth(depth - 1)}, api.ONot)
	case 5:
		return m.node([]api.Core{m.truth(depth - 1), m.truth(depth - 1), m.truth(depth - 1)}, api.OIf)
	case 6:
		return m.node([]api.Core{m.truth(depth - 1), m.truth(depth - 1)}, api.OAnd, api.OOr, api.OEither)
	}
	return m.node([]api.Core{m.number(depth - 1), m.number(depth - 1)}, api.OLess, api.OLeq, api.OEq, api.OMore, api.OMeq)
}

func (m *planner) action(depth int) api.Core {
	switch kind := m.Intn(6); {
	case depth <= 0 || kind == 0:
		return api.Core{Op: api.OHold}
	case kind < 4:
		return m.node([]api.Core{m.number(depth - 1)}, api.OTo, api.OBy)
	}
	c := api.Core{Op: api.OLadder, Parts: []api.Core{m.number(depth - 1)}}
	bound := m.Int63n(9) - 4
	for range m.Intn(4) {
		c.Parts = append(c.Parts, api.Core{Op: api.ONum, N: bound * api.One / 2}, m.action(depth-1))
		bound += 1 + m.Int63n(3)
	}
	c.Parts = append(c.Parts, m.action(depth-1))
	return c
}

// plan answers a plan with locals, which may be asked for within others.
func (m *planner) plan() api.Plan {
	for {
		p := of(full(""))
		m.numbers, m.truths = nil, nil
		p.Locals = m.Intn(7)
		for i := range int64(p.Locals) {
			if m.Intn(2) == 0 {
				m.numbers = append(m.numbers, api.Core{Op: api.OMemo, N: i, Parts: []api.Core{m.number(2)}})
			} else {
				m.truths = append(m.truths, api.Core{Op: api.OMemo, N: i, Parts: []api.Core{m.truth(2)}})
			}
		}
		for range m.Intn(6) {
			p.Guards = append(p.Guards, api.Guard{When: m.truth(3), Then: m.action(m.Intn(4))})
		}
		p.Final = m.action(m.Intn(6))
		if core.Formed(p) {
			return p
		}
	}
}

// means wants that the program of made says what p says, in some Envs. It counts what was said, and what the program is of.
func (m *planner) means(t *testing.T, p, made api.Plan, reasons map[api.Reason]int, ops map[int]int) {
	t.Helper()
	program, errno := code.Emit(made)
	if errno != api.OK {
		t.Fatalf("Emit(%s): %d", brief(made), errno)
	}
	for range 6 {
		v := m.env(len(p.Wins), len(p.Crons))
		want, errno := core.Decide(p, v)
		if errno != api.OK {
			t.Fatal(brief(p), errno)
		}
		if got := endsWell(t, program, v); got != want {
			t.Fatalf("%s says %v in %s, wanted %v", brief(made), got, brief(v), want)
		}
		reasons[want.Reason]++
	}
	for _, i := range program.Code {
		ops[i.Op]++
	}
}

func TestP24_5RandomPlans(t *testing.T) {
	m := &planner{maker: newMaker(6)}
	reasons, ops := map[api.Reason]int{}, map[int]int{}
	for range 8000 {
		p := m.plan()
		m.means(t, p, p, reasons, ops)
		folded, _ := fold.Plan(p)
		if m.means(t, p, folded, reasons, ops); t.Failed() {
			return
		}
	}
	for op := api.INum; op <= api.IDrop; op++ {
		if ops[op] < 500 {
			t.Error(ops)
		}
	}
	for reason := api.Fine; reason <= api.Asked; reason++ {
		if reasons[reason] < 500 {
			t.Error(reasons)
		}
	}
}

// writer writes policies' texts by chance.
type writer struct{ *maker }

func (w writer) fill(depth int, forms ...string) string {
	text := forms[w.Intn(len(forms))]
	for strings.Contains(text, "N") {
		text = strings.Replace(text, "N", w.number(depth-1), 1)
	}
	for strings.Contains(text, "T") {
		text = strings.Replace(text, "T", w.truth(depth-1), 1)
	}
	return text
}

func (w writer) number(depth int) string {
	if depth <= 0 {
		return w.fill(0, "1", "2.5", "0", "sum(q, 9s)", "rank(r, 20s, 90)", "(avg(lat, 7s) / 1[s])", "x", "y")
	}
	return w.fill(depth, "(N + N)", "(N - N)", "(N * N)", "(N / N)", "min(N, N)", "max(N, N)", "-(N)", "abs(N)", "ceil(N)", "floor(N)", "either(N, N)", "if(T, N, N)", "x", "y")
}

func (w writer) truth(depth int) string {
	if depth <= 0 {
		return w.fill(0, "true", "false", `cron("* 3 * * *")`, `cron("*/2 * * * *")`, "z")
	}
	return w.fill(depth, "(N < N)", "(N <= N)", "(N = N)", "(N > N)", "(N >= N)", "(T and T)", "(T or T)", "not (T)", "either(T, T)", "if(T, T, T)", "z")
}

func (w writer) action(depth int) string {
	if depth <= 0 {
		return w.fill(0, "hold", "to y * 1[rep]", "by x * 1[rep]")
	}
	switch w.Intn(3) {
	case 0:
		return "ladder " + w.number(depth) + " { 1: " + w.action(depth-1) + ", 2: " + w.action(depth-1) + ", else: " + w.action(depth-1) + " }"
	case 1:
		return "to (" + w.number(depth) + ") * 1[rep]"
	}
	return "by (" + w.number(depth) + ") * replicas"
}

func (w writer) policy() string {
	text := "policy p; replicas 1..9; metric q; metric r; metric lat [ms]; let x = avg(q, 8s) + 1; let y = either(x / sum(r, 9s), x); let z = x < y; "
	for range w.Intn(4) {
		text += "guard " + w.truth(w.Intn(3)) + " then " + w.action(w.Intn(3)) + "; "
	}
	return text + "decide " + w.action(w.Intn(4)) + ";"
}

// machines answers machines of the plan, of what each pass makes of it, and of what they all do.
func machines(t *testing.T, plan api.Plan) []*Machine {
	t.Helper()
	folded, _ := fold.Plan(plan)
	pruned, _ := prune.Plan(folded)
	all, _ := share.Plan(pruned)
	shared, _ := share.Plan(plan)
	var made []*Machine
	for _, p := range []api.Plan{plan, folded, pruned, all, shared} {
		program, errno := code.Emit(p)
		if errno != api.OK {
			t.Fatal(brief(p), errno)
		}
		made = append(made, machine(t, program))
	}
	return made
}

// follows hands the events to machines of the policy, and wants at each tick what the policy means over all that was taken. It
// counts what was said.
func follows(t *testing.T, text string, events []api.Event, reasons map[api.Reason]int) {
	t.Helper()
	plan, at, errno := check.Load(text)
	if errno != api.OK {
		t.Fatal(text, at, errno)
	}
	list := machines(t, plan)
	for i, e := range events {
		if e.Kind == api.ESample {
			for _, m := range list {
				if m.Sample(e.Id, api.Sample{Time: e.Time, Value: e.Value}) == api.OK != (len(mean.Taken(plan, events[:i+1])) > len(mean.Taken(plan, events[:i]))) {
					t.Fatal(text, events[:i+1])
				}
			}
			continue
		}
		want, errno := mean.Decide(plan, events[:i], e.Time, int64(i%10))
		reasons[want.Reason]++
		for _, m := range list {
			if raw, count, why := m.Tick(e.Time, int64(i%10)); raw != want || why != errno || count > len(m.p.Code) {
				t.Fatalf("%s: %v, %d, %d, wanted %v, %d at the end of %v", text, raw, count, why, want, errno, events[:i+1])
			}
		}
	}
}

func TestP24_5RandomPolicies(t *testing.T) {
	w := writer{newMaker(7)}
	reasons := map[api.Reason]int{}
	for range 400 {
		var events []api.Event
		clock := w.Int63n(9000)
		for range 40 {
			events = append(events, w.event(clock))
			clock = max(clock, events[len(events)-1].Time)
		}
		if follows(t, w.policy(), events, reasons); t.Failed() {
			return
		}
	}
	for reason := api.Fine; reason <= api.Asked; reason++ {
		if reason != api.Taint && reasons[reason] < 20 {
			t.Error(reasons)
		}
	}
}

func TestP24_5Policies(t *testing.T) {
	sample := func(time, value int64) api.Event { return api.Event{Kind: api.ESample, Time: time, Value: value} }
	tick := func(time int64) api.Event { return api.Event{Kind: api.ETick, Time: time} }
	events := []api.Event{
		tick(0), sample(0, 90000000), tick(0), sample(3, 5000000), tick(3), tick(2), sample(2, 1), tick(3 * 3600), sample(3*3600, 70000000), tick(3*3600 + 59), tick(3*3600 + 60),
		sample(3*3600+60, most), sample(3*3600+60, most), tick(3*3600 + 60), tick(4 * 3600), sample(4*3600, 5000001), tick(4*3600 + 30), tick(9 * 3600),
	}
	for _, text := range []string{
		"policy p; replicas 1..9; decide to 2[rep];",
		"policy p; replicas 1..9; metric cpu [pct]; decide by if(avg(cpu, 1m) > 80[pct], 1[rep], 0[rep]);",
		"policy p; replicas 1..9; metric cpu [pct]; decide by if(either(avg(cpu, 1m), 0) > 80[pct], 1[rep], 0[rep]);",
		`policy p; replicas 1..9; metric q; guard cron("0 3 * * *") then to 1[rep]; decide to 6[rep];`,
		"policy p; replicas 1..9; metric q; decide ladder sum(q, 10s) { 5: to 1[rep], 10: to 2[rep], else: hold };",
		"policy p; replicas 1..9; metric q; let x = avg(q, 1m) + 1; guard x > 5 and not (x < 7) then to x * 1[rep]; decide by (x - 3) * replicas;",
		"policy p; replicas 1..9; metric q; let x = 1 / sum(q, 1m); decide to either(x, either(1 / (x - x), count(q, 7d))) * 1[rep];",
		"policy p; replicas 1..9; metric q; let x = 1[s] / 1[ms]; decide to x * 1[rep];",
	} {
		follows(t, text, events, map[api.Reason]int{})
	}
}

// A plan's Env is asked for what the plan asks for: of each window and schedule its own.
func TestP24_5WindowsAndSchedulesInTheirOrder(t *testing.T) {
	p := of(full(""))
	for i := range int64(3) {
		p.Final = api.Core{Op: api.OTo, Parts: []api.Core{{Op: api.OWin, N: i}}}
		p.Guards = []api.Guard{{When: api.Core{Op: api.OCron, N: i}, Then: api.Core{Op: api.OHold}}}
		program, _ := code.Emit(p)
		v := api.Env{Wins: []api.Result{{N: 1000000}, {N: 2000000}, {N: 3000000}}, Crons: make([]bool, 3)}
		runs(t, program, v, wants(i+1), 4)
		v.Crons = slices.Insert([]bool{true, true}, int(i), false)
		runs(t, program, v, wants(i+1), 4)
		v.Crons = make([]bool, 3)
		v.Crons[i] = true
		runs(t, program, v, holds(api.Asked), 3)
	}
}
