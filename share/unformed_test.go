package share

import (
	"math"
	"testing"

	"capstan/api"
	"capstan/core"
)

// full answers a plan in which there is something everywhere, and something of each kind to share.
func full() api.Plan {
	sum := plus(win(2), num(3))
	return api.Plan{
		Metrics: []string{"a", "", "a"},
		Rules:   api.Rules{Min: 1, Max: 9, Step: 2, Up: 30, Down: 60},
		Wins:    []api.Win{{Metric: 2, Agg: api.ARank, Span: 60, Rank: 50000000}, {Metric: 2, Agg: api.ARank, Span: 60, Rank: 50000000}, {Metric: 1, Agg: api.AAvg, Span: 9}, {Metric: 1, Agg: api.AAvg, Span: 9}},
		Crons:   []api.Cron{minutely(1), minutely(1), minutely(3)},
		Guards: []api.Guard{
			guard(of(api.OLess, win(1), sum), to(sum)),
			guard(of(api.ONot, sched(0)), to(win(1))),
			guard(sched(2), ladder(win(0), num(3), hold, num(4), hold, by(plus(win(3), num(3))))),
			guard(of(api.ONot, sched(1)), ladder(neg(sum), num(1), to(sum), ladder(rep, num(4), hold, by(neg(sum))))),
		},
		Final: to(of(api.OAbs, win(1))),
	}
}

// fullShared is what full becomes.
func fullShared() api.Plan {
	p := full()
	sum := plus(win(1), num(3))
	once, twice, other := memo(0, sum), memo(2, neg(sum)), memo(1, of(api.ONot, sched(0)))
	p.Wins = []api.Win{p.Wins[0], p.Wins[2]}
	p.Crons = p.Crons[1:]
	p.Locals = 3
	p.Guards = []api.Guard{
		guard(of(api.OLess, win(0), once), to(once)),
		guard(other, to(win(0))),
		guard(sched(1), ladder(win(0), num(3), hold, num(4), hold, by(once))),
		guard(other, ladder(twice, num(1), to(once), ladder(rep, num(4), hold, by(twice)))),
	}
	p.Final = to(of(api.OAbs, win(0)))
	return p
}

func TestP20_1Full(t *testing.T) {
	becomes(t, full(), fullShared())
	p := api.Plan{Rules: api.Rules{Max: 1, Step: 1}, Final: hold}
	stays(t, p)
	p.Metrics, p.Wins, p.Crons, p.Guards, p.Final.Parts = []string{}, []api.Win{}, []api.Cron{}, []api.Guard{}, []api.Core{}
	stays(t, p)
}

// doubled answers a sum of c and c, that of it and itself, and so on.
func doubled(times int, c api.Core) api.Core {
	for range times {
		c = plus(c, c)
	}
	return c
}

func TestP20_1NotFormed(t *testing.T) {
	noPlan(t, api.Plan{}, api.ErrForm)
	for _, spoil := range []func(*api.Plan){
		func(p *api.Plan) { p.Rules.Max = 0 },
		func(p *api.Plan) { p.Rules.Min = 10 },
		func(p *api.Plan) { p.Rules.Min = -1 },
		func(p *api.Plan) { p.Rules.Max = 1000001 },
		func(p *api.Plan) { p.Rules.Step = 0 },
		func(p *api.Plan) { p.Rules.Up = -1 },
		func(p *api.Plan) { p.Rules.Down = 604801 },
		func(p *api.Plan) { p.Metrics = p.Metrics[:2] },
		func(p *api.Plan) { p.Metrics = make([]string, 65) },
		func(p *api.Plan) { p.Wins = p.Wins[:3] }, // though it would be left out
		func(p *api.Plan) { p.Wins[0].Rank = 0 },
		func(p *api.Plan) { p.Wins[1].Span = 0 },
		func(p *api.Plan) { p.Wins[1].Metric = 3 },
		func(p *api.Plan) { p.Wins[2].Metric = -1 },
		func(p *api.Plan) { p.Crons = p.Crons[:2] },
		func(p *api.Plan) { p.Crons[1].Hour = 0 },
		func(p *api.Plan) { p.Locals = -1 },
		func(p *api.Plan) { p.Locals = 257 },
		func(p *api.Plan) { p.Locals = math.MinInt },
		func(p *api.Plan) { p.Guards[0].When = num(0) },
		func(p *api.Plan) { p.Guards[0].When = hold },
		func(p *api.Plan) { p.Guards[0].Then = yes },
		func(p *api.Plan) { p.Guards[0] = api.Guard{} },
		func(p *api.Plan) { p.Guards[1].When.M = 1 },
		func(p *api.Plan) { p.Guards[1].When.Parts = []api.Core{yes, yes} },
		func(p *api.Plan) { p.Guards[1].Then = to(win(4)) },
		func(p *api.Plan) { p.Guards[2].When = sched(3) },
		func(p *api.Plan) { p.Guards[2].When = sched(-1) },
		func(p *api.Plan) { p.Guards[2].When = memo(0, yes) }, // there are no locals
		func(p *api.Plan) { p.Guards[2].Then = ladder(rep, num(5), hold, num(5), hold, hold) },
		func(p *api.Plan) { p.Guards[2].Then = ladder(rep, num(5), hold, rep, hold, hold) },
		func(p *api.Plan) { p.Guards[2].Then = ladder(rep, num(5), hold) },
		func(p *api.Plan) { p.Guards[2].Then = ladder(rep) },
		func(p *api.Plan) { p.Guards[2].Then = ladder() },
		func(p *api.Plan) { p.Guards[2].Then = ladder(yes, hold) },
		func(p *api.Plan) { p.Final = rep },
		func(p *api.Plan) { p.Final = no },
		func(p *api.Plan) { p.Final = api.Core{} },
		func(p *api.Plan) { p.Final = to(win(most)) },
		func(p *api.Plan) { p.Final = to(win(least)) },
		func(p *api.Plan) { p.Final = to(scaled(-1, 1, rep)) },
		func(p *api.Plan) { p.Final = to(scaled(1, 0, rep)) },
		func(p *api.Plan) { p.Final = to(memo(0, rep)) },
		func(p *api.Plan) { p.Final = to(chain(5000, rep)) },
		func(p *api.Plan) { p.Final = to(doubled(60, num(1))) },
	} {
		p := full()
		spoil(&p)
		if core.Formed(p) {
			t.Errorf("%s is formed", brief(p.Final))
		}
		noPlan(t, p, api.ErrForm)
	}
}
