package share

import (
	"slices"
	"testing"

	"capstan/api"
)

// asking answers a plan with these windows and schedules, and a guard for each number of a window, and of a schedule.
func asking(wins []api.Win, crons []api.Cron, askedWins, askedCrons []int64) api.Plan {
	p := api.Plan{Metrics: []string{"a", "b"}, Rules: api.Rules{Max: 1, Step: 1}, Wins: wins, Crons: crons, Final: hold}
	for _, n := range askedWins {
		p.Guards = append(p.Guards, guard(yes, to(win(n))))
	}
	for _, n := range askedCrons {
		p.Guards = append(p.Guards, guard(sched(n), hold))
	}
	return p
}

// picked answers those of the list.
func picked[T any](list []T, places []int) []T {
	var found []T
	for _, i := range places {
		found = append(found, list[i])
	}
	return found
}

func TestP20_1WindowsAndSchedules(t *testing.T) {
	wins, crons := []api.Win{seconds(5), seconds(3), seconds(9), seconds(4)}, []api.Cron{minutely(7), minutely(99), minutely(3), daily}
	cases := []struct {
		from, left []int   // what the list is made of, and what is left of it
		asked, now []int64 // the numbers ahead of it, and behind it
	}{
		{},
		{[]int{0}, []int{0}, []int64{0}, []int64{0}},
		{[]int{0, 0}, []int{0}, []int64{0, 1}, []int64{0, 0}},
		{[]int{0, 0}, []int{0}, []int64{1}, []int64{0}}, // the first one is kept, though it isn't asked
		{[]int{0, 1}, []int{0, 1}, []int64{1, 0, 1}, []int64{1, 0, 1}},
		{[]int{0, 1, 0}, []int{0, 1}, []int64{2, 1, 0}, []int64{0, 1, 0}},
		{[]int{0, 0, 1}, []int{0, 1}, []int64{2, 1, 0}, []int64{1, 0, 0}},
		{[]int{1, 0, 0}, []int{1, 0}, []int64{0, 1, 2}, []int64{0, 1, 1}},
		{[]int{1, 1, 1, 0, 0, 1, 0}, []int{1, 0}, []int64{0, 1, 2, 3, 4, 5, 6}, []int64{0, 0, 0, 1, 1, 0, 1}},
		{[]int{3, 2, 1, 0}, []int{3, 2, 1, 0}, []int64{0, 3, 2, 1}, []int64{0, 3, 2, 1}},
		{[]int{3, 2, 3, 1, 2, 0, 0, 3}, []int{3, 2, 1, 0}, []int64{7, 6, 5, 4, 3, 2, 1, 0}, []int64{0, 3, 3, 1, 2, 0, 1, 0}},
		{[]int{2, 2, 3, 3}, []int{2, 3}, nil, nil}, // nothing asks for them
		{[]int{0, 1, 2, 3}, []int{0, 1, 2, 3}, nil, nil},
	}
	for _, a := range cases {
		for _, b := range cases { // the numbers of the ones don't hang on the others
			becomes(t, asking(picked(wins, a.from), picked(crons, b.from), a.asked, b.asked), asking(picked(wins, a.left), picked(crons, b.left), a.now, b.now))
		}
	}
}

// Windows and schedules are the same only if they are so in every field.
func TestP20_1WindowsAndSchedulesThatAreNotAlike(t *testing.T) {
	ranked := api.Win{Agg: api.ARank, Span: 5, Rank: 50000000}
	wins := []api.Win{seconds(5), seconds(6), {Metric: 1, Agg: api.ASum, Span: 5}, {Agg: api.AAvg, Span: 5}, {Agg: api.ALow, Span: 5}, {Agg: api.AHigh, Span: 5}, {Agg: api.ACount, Span: 5}, ranked, ranked, ranked, ranked}
	wins[8].Rank, wins[9].Span, wins[10].Metric = 50000001, 6, 1
	crons := []api.Cron{daily, daily, daily, daily, daily, daily}
	crons[1].Minute, crons[2].Hour, crons[3].Day, crons[4].Month, crons[5].Week = 2, 2, 2, 2, 2
	for i, a := range wins {
		for j, b := range wins {
			list, now := []api.Win{a, b}, []int64{0, 1}
			if i == j {
				list, now = list[:1], []int64{0, 0}
			}
			becomes(t, asking([]api.Win{a, b}, nil, []int64{0, 1}, nil), asking(list, nil, now, nil))
		}
	}
	for i, a := range crons {
		for j, b := range crons {
			list, now := []api.Cron{a, b}, []int64{0, 1}
			if i == j {
				list, now = list[:1], []int64{0, 0}
			}
			becomes(t, asking(nil, []api.Cron{a, b}, nil, []int64{0, 1}), asking(nil, list, nil, now))
		}
	}
}

// Only the numbers of windows and schedules change, and none that stands for something else.
func TestP20_1OtherNumbersStay(t *testing.T) {
	plan := func(w, s int64) api.Plan {
		return simple(ladder(plus(scaled(3, 2, win(w)), plus(num(2), num(3))), num(2), to(num(2)), num(3), by(num(3)), hold), guard(of(api.OAnd, sched(s), of(api.OEither, fail(2, 2), yes)), to(fail(3, 1))))
	}
	p, want := plan(3, 2), plan(0, 1)
	p.Wins, want.Wins = []api.Win{seconds(7), seconds(7), seconds(5), seconds(7)}, []api.Win{seconds(7), seconds(5)}
	p.Crons, want.Crons = []api.Cron{minutely(5), daily, daily}, []api.Cron{minutely(5), daily}
	becomes(t, p, want)
}

// They are renumbered wherever they stand: in every place in which a number, or a truth, may be.
func TestP20_1WindowsAndSchedulesAnywhere(t *testing.T) {
	around := func(w, s api.Core) []api.Core {
		list := []api.Core{to(w), by(w), ladder(w, hold), ladder(rep, to(w)), ladder(rep, num(1), to(w), hold), ladder(rep, num(1), hold, num(2), ladder(rep, by(w)), hold), to(scaled(1, 2, w)), to(of(api.OIf, s, w, num(1))), to(of(api.OIf, s, num(1), w)), to(of(api.OIf, of(api.OLess, w, rep), num(1), num(2))), to(of(api.OEither, w, num(1))), to(of(api.OEither, num(1), w)),
			to(e2n(of(api.ONot, s))), to(e2n(of(api.OAnd, s, no))), to(e2n(of(api.OAnd, no, s))), to(e2n(of(api.OOr, s, no))), to(e2n(of(api.OOr, no, s))), to(e2n(of(api.OEither, s, no))), to(e2n(of(api.OEither, no, s))), to(e2n(of(api.OIf, no, s, no))), to(e2n(of(api.OIf, no, no, s)))}
		for _, op := range []int{api.ONeg, api.OAbs, api.OCeil, api.OFloor} {
			list = append(list, to(of(op, w)), to(of(op, of(op, w))))
		}
		for _, op := range []int{api.OAdd, api.OSub, api.OMul, api.ODiv, api.OMin, api.OMax} {
			list = append(list, to(of(op, w, num(1))), to(of(op, num(1), w)), to(of(op, w, w)))
		}
		for op := api.OLess; op <= api.OMeq; op++ {
			list = append(list, to(e2n(of(op, w, num(1)))), to(e2n(of(op, num(1), w))))
		}
		return list
	}
	before, after := around(win(3), sched(2)), around(win(1), sched(0))
	for i, c := range before {
		p, want := simple(c), simple(after[i])
		p.Wins, want.Wins = []api.Win{seconds(1), seconds(2), seconds(1), seconds(2)}, []api.Win{seconds(1), seconds(2)}
		p.Crons, want.Crons = []api.Cron{daily, daily, daily}, []api.Cron{daily}
		becomes(t, p, want)
		p.Guards, p.Final = []api.Guard{guard(sched(1), c)}, hold
		want.Guards, want.Final = []api.Guard{guard(sched(0), after[i])}, hold
		becomes(t, p, want)
	}
}

// Cores that ask like windows are the same only behind the first step; those that ask unlike ones never.
func TestP20_1CoresOfLikeWindows(t *testing.T) {
	a, b, c := neg(win(0)), neg(win(1)), neg(win(2))
	p := simple(to(plus(a, plus(b, c))))
	p.Wins = []api.Win{seconds(1), seconds(2), seconds(1)}
	want := with(1, simple(to(plus(memo(0, a), plus(b, memo(0, a))))))
	want.Wins = p.Wins[:2]
	becomes(t, p, want)
	p.Wins = []api.Win{seconds(1), seconds(1), seconds(2)}
	want.Final = to(plus(memo(0, a), plus(memo(0, a), b)))
	want.Wins = []api.Win{seconds(1), seconds(2)}
	becomes(t, p, want)
	p.Wins = []api.Win{seconds(1), seconds(1), seconds(1)}
	want.Final = to(plus(memo(0, a), plus(memo(0, a), memo(0, a))))
	want.Wins = p.Wins[:1]
	becomes(t, p, want)
	x, y, z := of(api.ONot, sched(0)), of(api.ONot, sched(1)), of(api.ONot, sched(2))
	p = simple(hold, guard(x, hold), guard(y, hold), guard(z, hold))
	p.Crons = []api.Cron{daily, minutely(5), daily}
	want = with(1, simple(hold, guard(memo(0, x), hold), guard(y, hold), guard(memo(0, x), hold)))
	want.Crons = p.Crons[:2]
	becomes(t, p, want)
	// A window and a schedule of one number aren't the same.
	stays(t, simple(to(of(api.OEither, win(0), num(1))), guard(of(api.OEither, sched(0), yes), hold)))
}

func TestP20_1AsManyWindowsAsThereMayBe(t *testing.T) {
	p := api.Plan{Metrics: make([]string, 64), Rules: api.Rules{Max: 1, Step: 1}, Final: hold}
	for i := range 256 {
		p.Wins = append(p.Wins, api.Win{Metric: i % 64, Agg: api.ASum, Span: int64(i/128) + 1})
		p.Crons = append(p.Crons, minutely(i%100))
		p.Guards = append(p.Guards, guard(sched(int64(i)), to(win(int64(i)))))
	}
	want := p
	want.Guards = slices.Clone(p.Guards)
	for i := range 256 {
		want.Guards[i] = guard(sched(int64(i%100)), to(win(int64(i%64+i/128*64))))
	}
	want.Wins = slices.Concat(p.Wins[:64], p.Wins[128:192])
	want.Crons = p.Crons[:100]
	becomes(t, p, want)
	for i := range 256 {
		p.Wins[i].Span, p.Crons[i] = int64(i)+1, minutely(i)
	}
	stays(t, p)
	for i := range 256 {
		p.Wins[i], p.Crons[i] = seconds(9), daily
		want.Guards[i] = guard(sched(0), to(win(0)))
	}
	want.Wins, want.Crons = p.Wins[:1], p.Crons[:1]
	becomes(t, p, want)
	p.Wins = append(p.Wins, seconds(9))
	noPlan(t, p, api.ErrForm) // though one would be left
	p.Wins, p.Crons = p.Wins[:256], append(p.Crons, daily)
	noPlan(t, p, api.ErrForm)
}
