package code

import (
	"math"
	"testing"

	"capstan/api"
	"capstan/core"
)

// full answers a plan in which there is something everywhere.
func full() api.Plan {
	x := memo(0, plus(win(2), num(3)))
	return api.Plan{
		Metrics: []string{"a", "", "a"},
		Rules:   api.Rules{Min: 1, Max: 9, Step: 2, Up: 30, Down: 60},
		Wins:    []api.Win{{Metric: 2, Agg: api.ARank, Span: 60, Rank: 50000000}, {Metric: 1, Agg: api.ASum, Span: 5}, {Metric: 1, Agg: api.AAvg, Span: 9}},
		Crons:   []api.Cron{daily, daily, {Minute: 2, Hour: 2, Day: 2, Month: 2, Week: 1}},
		Locals:  2,
		Guards: []api.Guard{
			guard(of(api.OLess, win(1), x), to(x)),
			guard(memo(1, of(api.ONot, sched(0))), to(scaled(3, 7, win(1)))),
			guard(sched(2), ladder(win(0), num(3), hold, num(4), hold, by(of(api.OEither, fail(1, 1), num(3))))),
		},
		Final: to(of(api.OIf, of(api.OOr, yes, memo(1, of(api.ONot, sched(0)))), of(api.OAbs, win(1)), x)),
	}
}

func TestP21_1Full(t *testing.T) {
	p := full()
	code := "IWin 1; IHave 0:6; IWin 2; INum 0; IAdd; ISet 0; ILess; IZero 14; IHave 0:13; IWin 2; INum 0; IAdd; ISet 0; ITo; " +
		"IHave 1:18; ICron 0; INot; ISet 1; IZero 22; IWin 1; IScale 0; ITo; " +
		"ICron 2; IZero 43; IWin 0; ICopy; INum 0; ILess; IZero 31; IDrop; IHold; ICopy; INum 2; ILess; IZero 37; IDrop; IHold; IDrop; ITry 41; IFail 1; IDone 42; INum 0; IBy; " +
		"INum 3; IZero 47; INum 3; IJump 51; IHave 1:51; ICron 0; INot; ISet 1; IZero 55; IWin 1; IAbs; IJump 60; IHave 0:60; IWin 2; INum 0; IAdd; ISet 0; ITo"
	emits(t, p, 3, code, 3, 7, 4, 1)
	got, _ := Emit(p)
	if got.Metrics != 3 || got.Rules != p.Rules || !sameList(got.Wins, p.Wins) || !sameList(got.Crons, p.Crons) || got.Locals != 2 {
		t.Error(got)
	}
}

// doubled answers a sum of c and c, that of it and itself, and so on.
func doubled(times int, c api.Core) api.Core {
	for range times {
		c = plus(c, c)
	}
	return c
}

// round answers a core that is a part of itself.
func round() api.Core {
	parts := []api.Core{{Op: api.ONeg}}
	parts[0].Parts = parts
	return parts[0]
}

func TestP21_1NotFormed(t *testing.T) {
	noProgram(t, api.Plan{}, api.ErrForm)
	for i, spoil := range []func(*api.Plan){
		func(p *api.Plan) { p.Rules.Max = 0 },
		func(p *api.Plan) { p.Rules.Min = 10 },
		func(p *api.Plan) { p.Rules.Min = -1 },
		func(p *api.Plan) { p.Rules.Max = 1000001 },
		func(p *api.Plan) { p.Rules.Step = 0 },
		func(p *api.Plan) { p.Rules.Up = -1 },
		func(p *api.Plan) { p.Rules.Down = 604801 },
		func(p *api.Plan) { p.Metrics = p.Metrics[:2] },
		func(p *api.Plan) { p.Metrics = make([]string, 65) },
		func(p *api.Plan) { p.Wins = p.Wins[:2] },
		func(p *api.Plan) { p.Wins = make([]api.Win, 257) },
		func(p *api.Plan) { p.Wins[0].Rank = 0 },
		func(p *api.Plan) { p.Wins[1].Span = 0 },
		func(p *api.Plan) { p.Wins[1].Metric = 3 },
		func(p *api.Plan) { p.Wins[2].Metric = -1 },
		func(p *api.Plan) { p.Crons = p.Crons[:2] },
		func(p *api.Plan) { p.Crons[1].Hour = 0 },
		func(p *api.Plan) { p.Locals = 1 },
		func(p *api.Plan) { p.Locals = 0 },
		func(p *api.Plan) { p.Locals = -1 },
		func(p *api.Plan) { p.Locals = 257 },
		func(p *api.Plan) { p.Locals = math.MinInt },
		func(p *api.Plan) { p.Guards[0].When = num(0) },
		func(p *api.Plan) { p.Guards[0].When = hold },
		func(p *api.Plan) { p.Guards[0].Then = yes },
		func(p *api.Plan) { p.Guards[0] = api.Guard{} },
		func(p *api.Plan) { p.Guards[1].When.M = 1 },
		func(p *api.Plan) { p.Guards[1].When.Parts = []api.Core{sched(0)} }, // another local 1
		func(p *api.Plan) { p.Guards[1].When.Parts = nil },
		func(p *api.Plan) { p.Guards[1].Then = to(win(3)) },
		func(p *api.Plan) { p.Guards[2].When = sched(3) },
		func(p *api.Plan) { p.Guards[2].When = sched(-1) },
		func(p *api.Plan) { p.Guards[2].When = memo(0, yes) },
		func(p *api.Plan) { p.Guards[2].Then = ladder(rep, num(5), hold, num(5), hold, hold) },
		func(p *api.Plan) { p.Guards[2].Then = ladder(rep, num(5), hold, rep, hold, hold) },
		func(p *api.Plan) { p.Guards[2].Then = ladder(rep, num(5), hold) },
		func(p *api.Plan) { p.Guards[2].Then = ladder(rep) },
		func(p *api.Plan) { p.Guards[2].Then = ladder() },
		func(p *api.Plan) { p.Guards[2].Then = ladder(yes, hold) },
		func(p *api.Plan) { p.Final = rep },
		func(p *api.Plan) { p.Final = no },
		func(p *api.Plan) { p.Final = api.Core{} },
		func(p *api.Plan) { p.Final = api.Core{Op: 33} },
		func(p *api.Plan) { p.Final = api.Core{Op: -1} },
		func(p *api.Plan) { p.Final = api.Core{Op: math.MaxInt} },
		func(p *api.Plan) { p.Final = to(hold) },
		func(p *api.Plan) { p.Final = of(api.OHold, rep) },
		func(p *api.Plan) { p.Final = of(api.OTo) },
		func(p *api.Plan) { p.Final = to(win(most)) },
		func(p *api.Plan) { p.Final = to(win(least)) },
		func(p *api.Plan) { p.Final = to(fail(0, 1)) },
		func(p *api.Plan) { p.Final = to(fail(4, 1)) },
		func(p *api.Plan) { p.Final = to(fail(1, 2)) },
		func(p *api.Plan) { p.Final = to(scaled(-1, 1, rep)) },
		func(p *api.Plan) { p.Final = to(scaled(1, 0, rep)) },
		func(p *api.Plan) { p.Final = to(memo(2, rep)) },
		func(p *api.Plan) { p.Final = to(memo(0, rep)) },
		func(p *api.Plan) { p.Final = to(nested(5000, rep, neg)) },
		func(p *api.Plan) { p.Final = to(doubled(60, num(1))) },
		func(p *api.Plan) { p.Final = to(round()) },
	} {
		p := full()
		spoil(&p)
		if core.Formed(p) {
			t.Errorf("%d is formed", i)
		}
		if got, errno := Emit(p); !sameProgram(got, api.Program{}) || errno != api.ErrForm {
			t.Errorf("%d: %s, %d", i, brief(got), errno)
		}
	}
}
