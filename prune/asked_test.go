package prune

import (
	"testing"

	"capstan/api"
	"capstan/core"
)

// keeps wants that p becomes the guards and Final of want, with just those windows and schedules.
func keeps(t *testing.T, p, want api.Plan, wins, crons []int) {
	t.Helper()
	want.Metrics, want.Rules, want.Locals, want.Wins, want.Crons = p.Metrics, p.Rules, p.Locals, nil, nil
	for _, i := range wins {
		want.Wins = append(want.Wins, p.Wins[i])
	}
	for _, i := range crons {
		want.Crons = append(want.Crons, p.Crons[i])
	}
	becomes(t, p, want)
}

// asks answers guards, each of which asks for one window, or schedule.
func asks(wins, crons []int64) []api.Guard {
	var list []api.Guard
	for _, n := range wins {
		list = append(list, guard(less, of(api.OTo, win(n))))
	}
	for _, n := range crons {
		list = append(list, guard(sched(n), hold))
	}
	return list
}

func TestP19_1WindowsAndSchedules(t *testing.T) {
	cases := []struct {
		asked, now []int64
		kept       []int
	}{
		{}, {[]int64{0}, []int64{0}, []int{0}}, {[]int64{1}, []int64{0}, []int{1}}, {[]int64{3}, []int64{0}, []int{3}},
		{[]int64{0, 3}, []int64{0, 1}, []int{0, 3}}, {[]int64{3, 0}, []int64{1, 0}, []int{0, 3}}, {[]int64{2, 1}, []int64{1, 0}, []int{1, 2}}, {[]int64{1, 1, 3, 1, 3}, []int64{0, 0, 1, 0, 1}, []int{1, 3}},
		{[]int64{0, 1, 2, 3}, []int64{0, 1, 2, 3}, []int{0, 1, 2, 3}}, {[]int64{3, 2, 1, 0}, []int64{3, 2, 1, 0}, []int{0, 1, 2, 3}}, {[]int64{3, 1, 2}, []int64{2, 0, 1}, []int{1, 2, 3}},
	}
	for _, wins := range cases {
		for _, crons := range cases { // the numbers of the ones don't hang on the others
			keeps(t, watching(4, 4, hold, asks(wins.asked, crons.asked)...), simple(hold, asks(wins.now, crons.now)...), wins.kept, crons.kept)
		}
	}
	// Alike ones stay, each for itself.
	p := watching(0, 0, hold, asks([]int64{0, 2, 3}, []int64{1, 2})...)
	p.Wins = []api.Win{seconds(5), seconds(5), seconds(5), seconds(6)}
	p.Crons = []api.Cron{daily, daily, daily}
	keeps(t, p, simple(hold, asks([]int64{0, 1, 2}, []int64{0, 1})...), []int{0, 2, 3}, []int{1, 2})
}

// aroundNumber answers cores of sort 1 with w, a number, in all places where one may stand.
func aroundNumber(w api.Core) []api.Core {
	list := []api.Core{w, memo(9, w), memo(9, memo(8, w)), scaled(3, 2, w), of(api.OIf, of(api.OEq, num(1), w), num(1), num(2)), of(api.OIf, no, w, num(2)), of(api.OIf, yes, num(1), w), of(api.OEither, num(1), w), of(api.OEither, w, num(1)), of(api.OMul, num(0), of(api.OAdd, rep, w))}
	for _, op := range []int{api.ONeg, api.OAbs, api.OCeil, api.OFloor} {
		list = append(list, of(op, w), of(op, of(op, w)))
	}
	for _, op := range []int{api.OAdd, api.OSub, api.OMul, api.ODiv, api.OMin, api.OMax} {
		list = append(list, of(op, w, num(1)), of(op, num(1), w), of(op, w, w), of(op, fail(1, 1), w))
	}
	return list
}

// aroundTruth answers cores of sort 2 with s, a truth, in all places where one may stand.
func aroundTruth(s api.Core) []api.Core {
	return []api.Core{s, memo(9, s), of(api.ONot, s), of(api.ONot, of(api.ONot, s)), of(api.OAnd, s, no), of(api.OAnd, no, s), of(api.OOr, s, no), of(api.OOr, yes, s), of(api.OEither, s, no), of(api.OEither, yes, s), of(api.OIf, s, no, no), of(api.OIf, no, s, no), of(api.OIf, yes, no, s), of(api.OLess, num(1), of(api.OIf, s, num(1), num(2)))}
}

// around answers plans with w in all places, and s.
func around(w, s api.Core) []api.Plan {
	var list []api.Plan
	for _, c := range aroundNumber(w) {
		act := of(api.OTo, c)
		list = append(list, simple(act, guard(s, hold)), simple(of(api.OBy, c), guard(s, hold)), simple(hold, guard(s, act)), simple(hold, guard(s, ladder(c, hold))), simple(ladder(c, num(2), to(2), hold), guard(s, hold)),
			simple(ladder(rep, num(2), act, hold), guard(s, hold)), simple(ladder(rep, num(2), hold, act), guard(s, hold)), simple(ladder(rep, num(2), hold, ladder(rep, num(3), ladder(rep, act), hold)), guard(s, hold)))
		for op := api.OLess; op <= api.OMeq; op++ {
			list = append(list, simple(hold, guard(of(op, c, num(1)), hold), guard(s, hold)), simple(hold, guard(of(op, num(1), c), hold), guard(s, hold)))
		}
	}
	for _, c := range aroundTruth(s) {
		list = append(list, simple(of(api.OTo, w), guard(c, hold)), simple(of(api.OTo, w), guard(less, to(1)), guard(c, hold), guard(less, hold)), simple(of(api.OTo, of(api.OIf, c, w, num(1)))), simple(ladder(w, num(1), of(api.OTo, of(api.OIf, c, num(1), num(2))), hold)))
	}
	return list
}

func TestP19_1WindowsAndSchedulesAnywhere(t *testing.T) {
	before, after := around(win(2), sched(1)), around(win(0), sched(0))
	if len(before) < 500 {
		t.Error(len(before))
	}
	for i, p := range before {
		keeps(t, watching(4, 3, p.Final, p.Guards...), after[i], []int{2}, []int{1})
		keeps(t, watching(3, 2, p.Final, p.Guards...), after[i], []int{2}, []int{1})
	}
}

// Only the numbers of windows and schedules change, and none that stands for something else.
func TestP19_1OtherNumbersStay(t *testing.T) {
	with := func(w, s int64) api.Plan {
		sum := of(api.OAdd, memo(2, scaled(3, 2, win(w))), of(api.OAdd, num(2), num(3)))
		return simple(ladder(sum, num(2), to(2), num(3), by(3), hold), guard(of(api.OAnd, memo(3, sched(s)), of(api.OEither, fail(2, 2), yes)), of(api.OTo, fail(3, 1))))
	}
	p := with(3, 2)
	keeps(t, watching(5, 4, p.Final, p.Guards...), with(0, 0), []int{3}, []int{2})
	keeps(t, watching(4, 3, p.Final, p.Guards...), with(0, 0), []int{3}, []int{2})
}

// What is left out asks for nothing.
func TestP19_1WhatIsLeftOutAsksForNothing(t *testing.T) {
	asking := guard(of(api.OOr, sched(0), of(api.OLess, win(0), num(1))), of(api.OTo, win(1)))
	// By the guards that are never met.
	p := watching(3, 2, of(api.OTo, win(2)), guard(no, of(api.OTo, win(0))), guard(sched(1), hold), guard(no, ladder(win(1), hold)))
	keeps(t, p, simple(of(api.OTo, win(0)), guard(sched(0), hold)), []int{2}, []int{1})
	// By the guards behind one that is always met, and by the Final that was.
	p = watching(3, 2, of(api.OTo, win(0)), guard(sched(1), hold), guard(yes, of(api.OTo, win(2))), asking, guard(yes, of(api.OTo, win(1))), guard(less, of(api.OBy, win(1))))
	keeps(t, p, simple(of(api.OTo, win(0)), guard(sched(0), hold)), []int{2}, []int{1})
	// By rungs: their actions are alike, so one asks for what the other does; but more of it is left within.
	wide := func(n int64) api.Core { return ladder(win(n), num(1), hold, hold) }
	keeps(t, watching(3, 1, ladder(rep, num(1), wide(1), wide(1))), simple(ladder(rep, ladder(win(0), hold))), []int{1}, nil)
	keeps(t, watching(3, 1, ladder(rep, num(1), wide(1), wide(2))), simple(ladder(rep, num(1), ladder(win(0), hold), ladder(win(1), hold))), []int{1, 2}, nil)
	// What can't be asked but stands in a core stays.
	p = watching(2, 2, of(api.OTo, of(api.OIf, yes, num(1), win(1))), guard(of(api.OAnd, no, sched(1)), hold))
	keeps(t, p, simple(of(api.OTo, of(api.OIf, yes, num(1), win(0))), guard(of(api.OAnd, no, sched(0)), hold)), []int{1}, []int{1})
	// All of them.
	keeps(t, watching(3, 2, hold), simple(hold), nil, nil)
	keeps(t, watching(256, 256, of(api.OTo, win(255)), guard(yes, to(1))), simple(to(1)), nil, nil)
}

// Rungs whose actions ask for other windows aren't alike, nor do they become so.
func TestP19_1RungsOfOtherWindows(t *testing.T) {
	a, b := of(api.OTo, win(1)), of(api.OTo, win(3))
	keeps(t, watching(4, 0, ladder(rep, num(1), a, num(2), a, num(3), b, a)), simple(ladder(rep, num(2), of(api.OTo, win(0)), num(3), of(api.OTo, win(1)), of(api.OTo, win(0)))), []int{1, 3}, nil)
	p := watching(4, 0, ladder(rep, num(1), a, b))
	p.Wins[3] = p.Wins[1]
	keeps(t, p, simple(ladder(rep, num(1), of(api.OTo, win(0)), of(api.OTo, win(1)))), []int{1, 3}, nil)
}

func TestP19_1MemosAreRenewedAlike(t *testing.T) {
	with := func(n int64) api.Plan {
		kept := memo(7, of(api.OAdd, win(n), memo(6, win(n))))
		return simple(ladder(kept, num(1), of(api.OTo, kept), of(api.OBy, memo(6, win(n)))), guard(of(api.OLess, kept, kept), of(api.OTo, kept)))
	}
	p := with(2)
	keeps(t, watching(3, 0, p.Final, p.Guards...), with(0), []int{2}, nil)
}

func TestP19_1AllElseIsAsItWas(t *testing.T) {
	p := watching(2, 2, to(1), guard(no, of(api.OTo, memo(99, win(0)))))
	for _, locals := range []int{100, 256} {
		p.Locals = locals
		for _, metrics := range [][]string{{"a"}, {"", "a", "a", "é"}, make([]string, 64)} {
			p.Metrics = metrics
			for _, rules := range []api.Rules{{Max: 1, Step: 1}, {Min: 1, Max: 9, Step: 2, Up: 30, Down: 60}, {Min: 1000000, Max: 1000000, Step: 1000000, Up: 604800, Down: 604800}} {
				p.Rules = rules
				becomes(t, p, api.Plan{Metrics: metrics, Rules: rules, Locals: locals, Final: to(1)})
			}
		}
	}
}

// many answers a plan of as much as there may be: 64 metrics, 256 windows, schedules and locals, and nodes many nodes, at
// least 1024.
func many(nodes int) api.Plan {
	p := api.Plan{Rules: api.Rules{Min: 1, Max: 1000000, Step: 9}, Locals: 256, Final: of(api.OTo, rep)}
	for range 64 {
		p.Metrics = append(p.Metrics, "m")
	}
	for i := range 256 {
		p.Wins = append(p.Wins, api.Win{Metric: i % 64, Agg: api.ASum, Span: int64(i) + 1})
		p.Crons = append(p.Crons, hourly(i))
	}
	for i := range int64(254) { // 4 nodes each, one of them of a window or schedule with an odd number
		if i%2 == 0 {
			p.Guards = append(p.Guards, guard(of(api.OLess, rep, win(i+1)), hold))
		} else {
			p.Guards = append(p.Guards, guard(of(api.ONot, sched(i)), of(api.OTo, num(i))))
		}
	}
	for range nodes - 4*254 - 2 {
		p.Final.Parts[0] = of(api.ONeg, p.Final.Parts[0])
	}
	return p
}

func TestP19_1AsMuchAsThereMayBe(t *testing.T) {
	p, want := many(4096), many(4096)
	var wins, crons []int
	for i := range want.Guards {
		if i%2 == 0 {
			want.Guards[i].When.Parts[1].N = int64(len(wins))
			wins = append(wins, i+1)
		} else {
			want.Guards[i].When.Parts[0].N = int64(len(crons))
			crons = append(crons, i)
		}
	}
	keeps(t, p, want, wins, crons)
	noPlan(t, many(4097))
	p = many(4097)
	p.Guards = append(p.Guards, guard(no, hold))
	noPlan(t, p)
	p.Guards = append([]api.Guard{guard(yes, hold)}, p.Guards...) // though all else would be left out
	noPlan(t, p)
	for _, alike := range []bool{true, false} {
		c, left := ladder(rep), ladder(rep)
		for i := range int64(1364) { // 3 nodes each
			action := to(7)
			if !alike && i%2 == 0 {
				action = by(7)
			}
			c.Parts = append(c.Parts, num(i), action)
		}
		c.Parts = append(c.Parts, by(7))
		if alike {
			left.Parts = append(left.Parts, num(1363), to(7), by(7))
		} else {
			left = c
		}
		if core.Nodes(c) != 4096 {
			t.Fatal(core.Nodes(c))
		}
		becomes(t, simple(c), simple(left))
	}
}
