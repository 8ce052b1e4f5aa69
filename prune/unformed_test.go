package prune

import (
	"math"
	"testing"

	"capstan/api"
	"capstan/core"
)

// full answers a plan in which there is something everywhere, and something of each kind to leave out.
func full() api.Plan {
	kept := memo(3, of(api.OAdd, win(2), num(3)))
	return api.Plan{
		Metrics: []string{"a", "", "a"},
		Rules:   api.Rules{Min: 1, Max: 9, Step: 2, Up: 30, Down: 60},
		Wins:    []api.Win{{Metric: 2, Agg: api.ARank, Span: 60, Rank: 50000000}, {Agg: api.ASum, Span: 1}, {Metric: 1, Agg: api.AAvg, Span: 9}},
		Crons:   []api.Cron{hourly(1), hourly(2), hourly(3)},
		Locals:  7,
		Guards: []api.Guard{
			guard(of(api.OLess, win(0), kept), of(api.OTo, kept)),
			guard(no, of(api.OTo, win(1))),
			guard(sched(2), ladder(win(0), num(3), hold, num(4), hold, of(api.OBy, kept))),
			guard(yes, ladder(kept, num(1), of(api.OTo, kept), ladder(rep, num(4), hold, num(5), hold, to(1)))),
			guard(sched(1), of(api.OTo, win(1))),
		},
		Final: of(api.OTo, win(1)),
	}
}

// fullPruned is what full becomes.
func fullPruned() api.Plan {
	p := full()
	kept := memo(3, of(api.OAdd, win(1), num(3)))
	p.Wins = []api.Win{p.Wins[0], p.Wins[2]}
	p.Crons = p.Crons[2:]
	p.Guards = []api.Guard{
		guard(of(api.OLess, win(0), kept), of(api.OTo, kept)),
		guard(sched(0), ladder(win(0), num(4), hold, of(api.OBy, kept))),
	}
	p.Final = ladder(kept, num(1), of(api.OTo, kept), ladder(rep, num(5), hold, to(1)))
	return p
}

// negated answers c in so many ONegs.
func negated(times int, c api.Core) api.Core {
	for range times {
		c = of(api.ONeg, c)
	}
	return c
}

// doubled answers a sum of c and c, that of it and itself, and so on.
func doubled(times int, c api.Core) api.Core {
	for range times {
		c = of(api.OAdd, c, c)
	}
	return c
}

func TestP19_1Full(t *testing.T) {
	becomes(t, full(), fullPruned())
	p := simple(hold)
	p.Metrics, p.Wins, p.Crons, p.Guards = []string{}, []api.Win{}, []api.Cron{}, []api.Guard{}
	becomes(t, p, simple(hold))
}

func TestP19_1NotFormed(t *testing.T) {
	noPlan(t, api.Plan{})
	for _, spoil := range []func(*api.Plan){
		func(p *api.Plan) { p.Rules.Max = 0 },
		func(p *api.Plan) { p.Rules.Min = 10 },
		func(p *api.Plan) { p.Rules.Min = -1 },
		func(p *api.Plan) { p.Rules.Max = 1000001 },
		func(p *api.Plan) { p.Rules.Step = 0 },
		func(p *api.Plan) { p.Rules.Up = -1 },
		func(p *api.Plan) { p.Rules.Down = 604801 },
		func(p *api.Plan) { p.Metrics = p.Metrics[:2] },
		func(p *api.Plan) { p.Metrics = make([]string, 65) },
		func(p *api.Plan) { p.Wins = p.Wins[:2] },
		func(p *api.Plan) { p.Wins = append(p.Wins, make([]api.Win, 254)...) },
		func(p *api.Plan) { p.Wins[0].Rank = 0 },
		func(p *api.Plan) { p.Wins[1].Span = 0 }, // though it would be left out
		func(p *api.Plan) { p.Wins[1].Metric = 3 },
		func(p *api.Plan) { p.Wins[2].Metric = -1 },
		func(p *api.Plan) { p.Crons = p.Crons[:2] },
		func(p *api.Plan) { p.Crons = append(p.Crons, make([]api.Cron, 254)...) },
		func(p *api.Plan) { p.Crons[0].Hour = 0 }, // though it would be left out
		func(p *api.Plan) { p.Locals = 3 },
		func(p *api.Plan) { p.Locals = -1 },
		func(p *api.Plan) { p.Locals = 257 },
		func(p *api.Plan) { p.Locals = math.MinInt },
		func(p *api.Plan) { p.Guards[0].When = num(0) },
		func(p *api.Plan) { p.Guards[0].When = hold },
		func(p *api.Plan) { p.Guards[0].Then = yes },
		func(p *api.Plan) { p.Guards[0] = api.Guard{} },
		func(p *api.Plan) { p.Guards[1].When.N = 2 },
		func(p *api.Plan) { p.Guards[3].When.N = -1 },
		func(p *api.Plan) { p.Guards[1].When.M = 1 },
		func(p *api.Plan) { p.Guards[3].When.Parts = []api.Core{yes} },
		func(p *api.Plan) { p.Guards[1].Then = of(api.OTo, win(3)) }, // though it is never met
		func(p *api.Plan) { p.Guards[4].When = sched(3) },            // though it is never asked
		func(p *api.Plan) { p.Guards[4].When = sched(-1) },
		func(p *api.Plan) { p.Guards[4].Then = num(1) },
		func(p *api.Plan) { p.Guards[2].Then = ladder(rep, num(5), hold, num(5), hold, hold) },
		func(p *api.Plan) { p.Guards[2].Then = ladder(rep, num(5), hold, rep, hold, hold) },
		func(p *api.Plan) { p.Guards[2].Then = ladder(rep, num(5), hold) },
		func(p *api.Plan) { p.Guards[2].Then = ladder(rep) },
		func(p *api.Plan) { p.Guards[2].Then = ladder() },
		func(p *api.Plan) { p.Guards[2].Then = ladder(yes, hold) },
		func(p *api.Plan) { p.Final = rep }, // though it would be left out, as all of these
		func(p *api.Plan) { p.Final = no },
		func(p *api.Plan) { p.Final = api.Core{} },
		func(p *api.Plan) { p.Final = of(api.OTo, win(most)) },
		func(p *api.Plan) { p.Final = of(api.OTo, win(least)) },
		func(p *api.Plan) { p.Final = of(api.OTo, negated(5000, rep)) },
		func(p *api.Plan) { p.Final = of(api.OTo, doubled(60, num(1))) },
		func(p *api.Plan) { p.Final = of(api.OTo, memo(3, rep)) }, // not that of a guard
		func(p *api.Plan) { p.Final = of(api.OTo, memo(3, of(api.OAdd, win(1), num(3)))) },
	} {
		p := full()
		spoil(&p)
		if core.Formed(p) {
			t.Errorf("%s is formed", brief(p))
		}
		noPlan(t, p)
	}
}
