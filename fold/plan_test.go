package fold

import (
	"math"
	"reflect"
	"testing"

	"capstan/api"
	"capstan/check"
	"capstan/core"
	"capstan/mean"
)

var daily = api.Cron{Minute: 1, Hour: 1, Day: 1<<32 - 2, Month: 1<<13 - 2, Week: 1<<7 - 1}

// simple answers a plan of the action alone.
func simple(final api.Core) api.Plan {
	return api.Plan{Rules: api.Rules{Max: 1, Step: 1}, Final: final}
}

// full answers a plan in which there is something everywhere, and something to fold in each core.
func full() api.Plan {
	sum := of(api.OAdd, num(1), num(2))
	return api.Plan{
		Metrics: []string{"a", "", "a"},
		Rules:   api.Rules{Min: 1, Max: 9, Step: 2, Up: 30, Down: 60},
		Wins:    []api.Win{{Metric: 2, Agg: api.ARank, Span: 60, Rank: 50000000}, {Agg: api.ASum, Span: 1}, {Metric: 1, Agg: api.AAvg, Span: 9}},
		Crons:   []api.Cron{daily, daily},
		Locals:  7,
		Guards: []api.Guard{
			{When: of(api.OLess, win(0), sum), Then: of(api.OTo, memo(3, of(api.OAdd, win(1), sum)))},
			{When: of(api.ONot, no), Then: of(api.OLadder, sum, num(3), hold, num(4), of(api.OBy, sum), hold)},
			{When: of(api.OAnd, of(api.OLess, zero, win(2)), sched(1)), Then: hold},
			{When: no, Then: of(api.OTo, zero)},
		},
		Final: of(api.OLadder, memo(3, of(api.OAdd, win(1), sum)), num(1), of(api.OTo, memo(0, sum)), of(api.OBy, of(api.OIf, yes, rep, win(2)))),
	}
}

// fullFolded is what full becomes.
func fullFolded() api.Plan {
	p := full()
	sum := memo(3, of(api.OAdd, win(1), num(3)))
	p.Guards = []api.Guard{
		{When: of(api.OLess, win(0), num(3)), Then: of(api.OTo, sum)},
		{When: yes, Then: of(api.OBy, num(3))},
		{When: fail(2, 2), Then: hold},
		{When: no, Then: of(api.OTo, fail(2, 1))},
	}
	p.Final = of(api.OLadder, sum, num(1), of(api.OTo, num(3)), of(api.OBy, rep))
	return p
}

// samePlan answers whether both are the same plan; lists without elements are alike.
func samePlan(a, b api.Plan) bool {
	if len(a.Metrics)+len(b.Metrics) == 0 {
		a.Metrics, b.Metrics = nil, nil
	}
	if len(a.Wins)+len(b.Wins) == 0 {
		a.Wins, b.Wins = nil, nil
	}
	if len(a.Crons)+len(b.Crons) == 0 {
		a.Crons, b.Crons = nil, nil
	}
	if len(a.Guards) != len(b.Guards) || !core.Same(a.Final, b.Final) {
		return false
	}
	for i, g := range a.Guards {
		if !core.Same(g.When, b.Guards[i].When) || !core.Same(g.Then, b.Guards[i].Then) {
			return false
		}
	}
	a.Guards, b.Guards, a.Final, b.Final = nil, nil, api.Core{}, api.Core{}
	return reflect.DeepEqual(a, b)
}

func planBecomes(t *testing.T, p, want api.Plan) {
	t.Helper()
	if got, errno := Plan(p); !samePlan(got, want) || errno != api.OK {
		t.Errorf("Plan(%s) = %s, %d, wanted %s", brief(p), brief(got), errno, brief(want))
	}
}

func noPlan(t *testing.T, p api.Plan) {
	t.Helper()
	if got, errno := Plan(p); !samePlan(got, api.Plan{}) || errno != api.ErrForm {
		t.Errorf("Plan(%s) = %s, %d, wanted ErrForm", brief(p), brief(got), errno)
	}
}

func TestP18_1Plan(t *testing.T) {
	planBecomes(t, full(), fullFolded())
	planBecomes(t, fullFolded(), fullFolded())
	planBecomes(t, simple(hold), simple(hold))
	planBecomes(t, simple(of(api.OTo, of(api.OAdd, num(1), num(2)))), simple(to(3)))
	p := simple(hold)
	p.Metrics, p.Wins, p.Crons, p.Guards = []string{}, []api.Win{}, []api.Cron{}, []api.Guard{}
	planBecomes(t, p, simple(hold))
	// Guards that are known not to be met, or to be met, stay; and so do windows, schedules, locals that none asks for.
	p = full()
	p.Guards = []api.Guard{{When: of(api.ONot, yes), Then: to(1)}, {When: of(api.ONot, no), Then: to(2)}, {When: yes, Then: to(3)}}
	p.Final = of(api.OTo, of(api.OIf, no, win(0), num(4)))
	want := full()
	want.Guards = []api.Guard{{When: no, Then: to(1)}, {When: yes, Then: to(2)}, {When: yes, Then: to(3)}}
	want.Final = to(4)
	planBecomes(t, p, want)
}

func TestP18_1PlanOfAsMuchAsThereMayBe(t *testing.T) {
	p := api.Plan{Rules: api.Rules{Min: 1000000, Max: 1000000, Step: 1000000, Up: 604800, Down: 604800}, Locals: 256, Final: of(api.OTo, deep(api.ONeg, 94, num(6)))}
	for range 64 {
		p.Metrics = append(p.Metrics, "m")
	}
	for i := range 256 {
		p.Wins = append(p.Wins, api.Win{Metric: i % 64, Agg: api.ASum, Span: int64(i) + 1})
		p.Crons = append(p.Crons, daily)
	}
	want := core.Copy(p)
	want.Final = to(6)
	for i := range int64(250) { // 16 nodes each: 4000
		g := api.Guard{When: of(api.OOr, of(api.OLess, win(i), of(api.OAdd, num(i), num(1))), of(api.OAnd, of(api.ONot, no), sched(i))), Then: of(api.OTo, memo(i, deep(api.ONeg, 3, win(255))))}
		p.Guards = append(p.Guards, g)
		want.Guards = append(want.Guards, api.Guard{When: of(api.OOr, of(api.OLess, win(i), num(i+1)), sched(i)), Then: g.Then})
	}
	nodes := 0
	for _, g := range p.Guards {
		nodes += core.Nodes(g.When) + core.Nodes(g.Then)
	}
	if nodes += core.Nodes(p.Final); nodes != 4096 {
		t.Fatal(nodes)
	}
	planBecomes(t, p, want)
	p.Final = of(api.OTo, deep(api.ONeg, 95, num(6)))
	noPlan(t, p) // a node too many, though they would be few
}

func TestP18_1PlanNotFormed(t *testing.T) {
	noPlan(t, api.Plan{})
	for _, spoil := range []func(*api.Plan){
		func(p *api.Plan) { p.Rules.Max = 0 },
		func(p *api.Plan) { p.Rules.Min = 10 },
		func(p *api.Plan) { p.Rules.Step = 0 },
		func(p *api.Plan) { p.Rules.Up = -1 },
		func(p *api.Plan) { p.Rules.Down = 604801 },
		func(p *api.Plan) { p.Metrics = p.Metrics[:2] },
		func(p *api.Plan) { p.Metrics = make([]string, 65) },
		func(p *api.Plan) { p.Wins = p.Wins[:2] },
		func(p *api.Plan) { p.Wins[0].Rank = 0 },
		func(p *api.Plan) { p.Wins[1].Metric = -1 },
		func(p *api.Plan) { p.Crons = p.Crons[:1] },
		func(p *api.Plan) { p.Crons[0].Hour = 0 },
		func(p *api.Plan) { p.Locals = 3 },
		func(p *api.Plan) { p.Locals = -1 },
		func(p *api.Plan) { p.Locals = 257 },
		func(p *api.Plan) { p.Locals = math.MinInt },
		func(p *api.Plan) { p.Guards[3].When = num(0) },
		func(p *api.Plan) { p.Guards[3].When = hold },
		func(p *api.Plan) { p.Guards[3].Then = yes },
		func(p *api.Plan) { p.Guards[3].Then = of(api.OTo, win(3)) }, // though it can't be met
		func(p *api.Plan) { p.Guards[0] = api.Guard{} },
		func(p *api.Plan) { p.Final = rep },
		func(p *api.Plan) { p.Final = no },
		func(p *api.Plan) { p.Final = api.Core{} },
		func(p *api.Plan) { p.Final = of(api.OTo, of(api.OIf, yes, num(1), win(3))) },
		func(p *api.Plan) { p.Final = of(api.OTo, deep(api.ONeg, 5000, rep)) },
		func(p *api.Plan) { p.Final = of(api.OTo, doubled(60, num(1))) },
		func(p *api.Plan) { p.Final = of(api.OTo, memo(3, rep)) }, // not that of a guard
		func(p *api.Plan) {
			p.Final = of(api.OTo, of(api.OAdd, memo(1, num(3)), memo(1, of(api.OAdd, num(1), num(2))))) // alike only when they are folded
		},
	} {
		p := full()
		spoil(&p)
		noPlan(t, p)
	}
}

// What a policy says behind histories, it says when its plan is folded.
func TestP18_2PoliciesAreTheSame(t *testing.T) {
	for text, want := range map[string]api.Core{
		`policy p; replicas 1..9; let x = 1[s] / 1[ms]; decide to x * 1[rep];`:                                                               to(1000000000),
		`policy p; replicas 1..9; metric q; decide ladder sum(q, 10s) { 5: to 1[rep], 10: to 1[rep] + 1[rep], else: hold };`:                 of(api.OLadder, win(0), num(5000000), to(1000000), num(10000000), to(2000000), hold),
		`policy p; replicas 1..9; metric q; let lost = 1 / 0; decide by either(lost, avg(q, 1m)) * 2[rep];`:                                  of(api.OBy, of(api.OMul, win(0), num(2000000))),
		`policy p; replicas 1..9; metric q [ms]; guard 1 > 2 or avg(q, 1m) > 1[s] then hold; decide to if(true, replicas, 1[rep]) + 1[rep];`: of(api.OTo, of(api.OAdd, rep, num(1000000))),
		`policy p; replicas 1..9; metric q; decide to max(avg(q, 1m), 1 / 0) * 1[rep];`:                                                      of(api.OTo, of(api.OMul, of(api.OMax, win(0), fail(2, 1)), num(1000000))),
	} {
		p, _, errno := check.Load(text)
		if errno != api.OK {
			t.Fatal(text, errno)
		}
		folded, errno := Plan(p)
		if errno != api.OK || !core.Same(folded.Final, want) {
			t.Errorf("%s: %v, %d", text, folded, errno)
		}
		var l []api.Event
		for at := range int64(40) {
			l = append(l, api.Event{Kind: 1 + int(at%2), Value: at * at * api.One, Time: at * 7})
			for _, late := range []int64{0, 5, 9, 100} {
				says, errno := mean.Decide(p, l, at*7+late, at)
				if got, why := mean.Decide(folded, l, at*7+late, at); got != says || why != errno || errno != api.OK {
					t.Errorf("%s at %d: %v, %d, wanted %v, %d", text, at*7+late, got, why, says, errno)
				}
			}
		}
	}
}
