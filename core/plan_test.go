package core

import (
	"math"
	"slices"
	"strings"
	"testing"

	"capstan/api"
)

func TestP15_1Nodes(t *testing.T) {
	for op := api.ONum; op <= api.OLadder; op++ {
		if got, want := Nodes(whole(op)), len(plainNodes(whole(op))); got != want {
			t.Errorf("Nodes(%v) = %d, wanted %d", whole(op), got, want)
		}
	}
	for _, x := range []struct {
		c    api.Core
		want int
	}{
		{api.Core{}, 1}, {api.Core{Parts: []api.Core{}}, 1}, {num(1), 1}, {of(99, num(1), api.Core{Op: -5}, of(api.OAdd)), 4}, {of(api.OAdd, of(api.OMul, rep, rep), rep), 5},
		{deep(api.ONeg, 4094, rep), 4095}, {deep(api.ONeg, 4095, rep), 4096}, {deep(api.ONeg, 4096, rep), 4097}, {deep(api.ONeg, 4097, rep), 4097}, {deep(api.ONeg, 1<<16-1, rep), 4097}, {deep(0, 1<<16-1, api.Core{}), 4097},
		{of(-1, make([]api.Core, 4094)...), 4095}, {of(-1, make([]api.Core, 4095)...), 4096}, {of(-1, make([]api.Core, 4096)...), 4097}, {of(-1, make([]api.Core, 4097)...), 4097}, {of(-1, make([]api.Core, 1<<20)...), 4097},
		{of(api.OAdd, deep(api.ONeg, 2046, rep), deep(api.ONeg, 2047, rep)), 4096}, {of(api.OAdd, deep(api.ONeg, 2047, rep), deep(api.ONeg, 2047, rep)), 4097},
		{of(api.OIf, deep(api.ONot, 5000, no), rep, rep), 4097}, {of(api.OIf, no, rep, deep(api.ONeg, 5000, rep)), 4097}, {doubled(11, rep), 4095}, {of(api.ONeg, doubled(11, rep)), 4096}, {doubled(12, rep), 4097}, {doubled(50, rep), 4097},
	} {
		if got := Nodes(x.c); got != x.want {
			t.Errorf("Nodes(%s) = %d, wanted %d", brief(x.c), got, x.want)
		}
	}
}

// doubled answers a sum of c and c, that of it and itself, and so on: 2^(times + 1) - 1 nodes, if c is one.
func doubled(times int, c api.Core) api.Core {
	for range times {
		c = of(api.OAdd, c, c)
	}
	return c
}

// sameIs asks both ways round.
func sameIs(t *testing.T, a, b api.Core, want bool) {
	t.Helper()
	if Same(a, b) != want || Same(b, a) != want {
		t.Errorf("Same(%s, %s) = %t, %t, wanted %t", brief(a), brief(b), Same(a, b), Same(b, a), want)
	}
}

// others answers cores that differ from c in one field.
func others(c api.Core) []api.Core {
	var list []api.Core
	for _, change := range []func(*api.Core){
		func(c *api.Core) { c.Op++ },
		func(c *api.Core) { c.Op += 1 << 32 },
		func(c *api.Core) { c.Op = -c.Op - 1 },
		func(c *api.Core) { c.N++ },
		func(c *api.Core) { c.N ^= math.MinInt64 },
		func(c *api.Core) { c.N += 1 << 32 },
		func(c *api.Core) { c.M-- },
		func(c *api.Core) { c.M ^= math.MinInt64 },
		func(c *api.Core) { c.M += 1 << 32 },
		func(c *api.Core) { c.N, c.M = c.M+1, c.N },
		func(c *api.Core) { c.Parts = append(slices.Clone(c.Parts), api.Core{}) },
		func(c *api.Core) { c.Parts = append(slices.Clone(c.Parts), num(1)) },
		func(c *api.Core) { c.Parts = append([]api.Core{{Op: 77}}, c.Parts...) },
	} {
		other := c
		change(&other)
		list = append(list, other)
	}
	if n := len(c.Parts); n > 0 {
		less, none := c, c
		less.Parts, none.Parts = c.Parts[:n-1], nil
		list = append(list, less, none)
	}
	return list
}

func TestP15_1Same(t *testing.T) {
	cores := []api.Core{{}, {Op: -1, N: math.MinInt64, M: math.MaxInt64}, of(99, num(1), of(98, of(97)))}
	for op := api.ONum; op <= api.OLadder; op++ {
		cores = append(cores, whole(op))
	}
	places := []func(api.Core) api.Core{
		func(c api.Core) api.Core { return c },
		func(c api.Core) api.Core { return of(api.ONeg, c) },
		func(c api.Core) api.Core { return of(api.OIf, c, num(1), num(2)) },
		func(c api.Core) api.Core { return of(api.OIf, yes, c, num(2)) },
		func(c api.Core) api.Core { return of(api.OIf, yes, num(2), c) },
		func(c api.Core) api.Core { return deep(api.OMax, 500, c, rep) },
		func(c api.Core) api.Core { return deepLast(api.OMax, 3000, c, rep) },
	}
	for i, a := range cores {
		for j, b := range cores {
			sameIs(t, a, copyCore(b), i == j)
		}
		for _, place := range places {
			sameIs(t, place(a), place(copyCore(a)), true)
			for _, b := range others(a) {
				sameIs(t, place(a), place(b), false)
			}
		}
	}
}

func TestP15_1SameOfOtherShapes(t *testing.T) {
	sameIs(t, of(api.OAdd, num(1), num(2)), of(api.OAdd, num(2), num(1)), false)
	sameIs(t, of(api.OAdd, of(api.OAdd, rep, rep), rep), of(api.OAdd, rep, of(api.OAdd, rep, rep)), false)
	sameIs(t, of(0, of(0), of(0)), of(0, of(0, of(0))), false)
	sameIs(t, api.Core{Op: 3, Parts: []api.Core{}}, api.Core{Op: 3}, true)
	sameIs(t, of(0, api.Core{Parts: []api.Core{}}), of(0, api.Core{}), true)
	sameIs(t, deep(0, 1<<16-1, num(1)), deep(0, 1<<16-1, num(1)), true)
	sameIs(t, deep(0, 1<<16-1, num(1)), deep(0, 1<<16-1, num(2)), false)
	sameIs(t, deep(0, 1<<16-1, num(1)), deep(0, 1<<16-2, num(1)), false)
	wide, other := make([]api.Core, 1<<20), make([]api.Core, 1<<20)
	sameIs(t, of(1, wide...), of(1, other...), true)
	sameIs(t, of(1, wide...), of(1, other[1:]...), false)
	other[1<<20-1].M = 1
	sameIs(t, of(1, wide...), of(1, other...), false)
	sameIs(t, doubled(16, num(1)), doubled(16, num(1)), true)
	sameIs(t, doubled(16, num(1)), of(api.OAdd, doubled(15, num(1)), doubled(15, num(2))), false)
}

func TestP15_1Right(t *testing.T) {
	const big, week = 1000000, 604800
	for _, x := range []struct {
		r    api.Rules
		want bool
	}{
		{api.Rules{}, false}, {api.Rules{Max: 1}, false}, {api.Rules{Max: 1, Step: 1}, true}, {api.Rules{Step: 1}, false}, {api.Rules{Min: 1, Max: 10, Step: 3, Up: 30, Down: 60}, true},
		{api.Rules{Min: -1, Max: 1, Step: 1}, false}, {api.Rules{Min: math.MinInt64, Max: 1, Step: 1}, false}, {api.Rules{Min: 1, Max: 1, Step: 1}, true}, {api.Rules{Min: 2, Max: 1, Step: 1}, false}, {api.Rules{Min: math.MaxInt64, Max: 1, Step: 1}, false},
		{api.Rules{Min: -1, Max: 0, Step: 1}, false}, {api.Rules{Min: -2, Max: -1, Step: 1}, false}, {api.Rules{Min: 0, Max: -1, Step: 1}, false},
		{api.Rules{Max: big, Step: 1}, true}, {api.Rules{Max: big + 1, Step: 1}, false}, {api.Rules{Max: math.MaxInt64, Step: 1}, false}, {api.Rules{Min: big, Max: big, Step: 1}, true}, {api.Rules{Min: big + 1, Max: big + 1, Step: 1}, false}, {api.Rules{Min: big + 1, Max: big, Step: 1}, false},
		{api.Rules{Max: 1, Step: big}, true}, {api.Rules{Max: 1, Step: big + 1}, false}, {api.Rules{Max: 1, Step: -1}, false}, {api.Rules{Max: 1, Step: math.MaxInt64}, false}, {api.Rules{Max: 1, Step: math.MinInt64}, false}, {api.Rules{Max: 9, Step: 0}, false},
		{api.Rules{Max: 1, Step: 1, Up: week}, true}, {api.Rules{Max: 1, Step: 1, Up: week + 1}, false}, {api.Rules{Max: 1, Step: 1, Up: -1}, false}, {api.Rules{Max: 1, Step: 1, Up: math.MaxInt64}, false}, {api.Rules{Max: 1, Step: 1, Up: math.MinInt64}, false},
		{api.Rules{Max: 1, Step: 1, Down: week}, true}, {api.Rules{Max: 1, Step: 1, Down: week + 1}, false}, {api.Rules{Max: 1, Step: 1, Down: -1}, false}, {api.Rules{Max: 1, Step: 1, Down: math.MaxInt64}, false}, {api.Rules{Max: 1, Step: 1, Down: math.MinInt64}, false},
		{api.Rules{Min: big, Max: big, Step: big, Up: week, Down: week}, true}, {api.Rules{Max: 1 << 32, Step: 1}, false}, {api.Rules{Max: 1, Step: 1<<32 + 1}, false}, {api.Rules{Max: 1, Step: 1, Up: 1 << 32}, false},
	} {
		if Right(x.r) != x.want {
			t.Errorf("Right(%v) = %t", x.r, !x.want)
		}
		p := plan()
		p.Rules = x.r
		formedIs(t, p, x.want)
	}
}

// daily names three o'clock of each day.
var daily = api.Cron{Minute: 1, Hour: 8, Day: 1<<32 - 2, Month: 1<<13 - 2, Week: 1<<7 - 1}

// plan answers a formed plan with two metrics, three windows, two schedules and two locals.
func plan() api.Plan {
	load := of(api.OAdd, win(0), scaled(1, 1000, win(2)))
	return api.Plan{
		Metrics: []string{"cpu", "lat"},
		Rules:   api.Rules{Min: 1, Max: 9, Step: 2, Up: 30, Down: 60},
		Wins:    []api.Win{{Metric: 0, Agg: api.ASum, Span: 10}, {Metric: 1, Agg: api.ARank, Span: 604800, Rank: 95000000}, {Metric: 1, Agg: api.AAvg, Span: 1}},
		Crons:   []api.Cron{daily, {Minute: 1 << 59, Hour: 1, Day: 2, Month: 2, Week: 1}},
		Locals:  2,
		Guards: []api.Guard{
			{When: sched(1), Then: hold},
			{When: of(api.OAnd, sched(0), of(api.OLess, memo(1, load), num(5))), Then: of(api.OTo, memo(1, load))},
		},
		Final: of(api.OLadder, memo(0, win(1)), num(1), of(api.OBy, num(-1000000)), num(7), hold, of(api.OBy, memo(0, win(1)))),
	}
}

// simple answers a plan of no more than a Final.
func simple(final api.Core) api.Plan {
	return api.Plan{Rules: api.Rules{Max: 10, Step: 10}, Final: final}
}

func formedIs(t *testing.T, p api.Plan, want bool) {
	t.Helper()
	if Formed(p) != want {
		t.Errorf("Formed(%s) = %t", brief(p), !want)
	}
	v := api.Env{Wins: make([]api.Result, len(p.Wins)), Crons: make([]bool, len(p.Crons))}
	raw, errno := Decide(p, v)
	if errno != map[bool]api.Errno{true: api.OK, false: api.ErrForm}[want] || !want && raw != (api.Raw{}) {
		t.Errorf("Decide(%s) = %v, %d", brief(p), raw, errno)
	}
}

func TestP15_1Formed(t *testing.T) {
	formedIs(t, plan(), true)
	formedIs(t, api.Plan{}, false)
	formedIs(t, simple(hold), true)
	formedIs(t, api.Plan{Final: hold}, false)
	for _, final := range samples()[3] {
		formedIs(t, simple(final), true)
	}
	for _, list := range [][]api.Core{samples()[0], samples()[1], samples()[2]} {
		for _, final := range list {
			formedIs(t, simple(final), false)
		}
	}
	// Of the names of the metrics nothing is asked.
	p := plan()
	p.Metrics = []string{"", "\xff"}
	formedIs(t, p, true)
	p.Metrics = []string{"a", "a"}
	formedIs(t, p, true)
}

func TestP15_1FormedWithinTheLimits(t *testing.T) {
	for name, x := range map[string]struct {
		most int
		fill func(p *api.Plan, n int)
	}{
		"Metrics": {64, func(p *api.Plan, n int) { p.Metrics = slices.Repeat([]string{"m"}, n) }},
		"Wins":    {256, func(p *api.Plan, n int) { p.Wins = slices.Repeat(p.Wins[2:], n) }},
		"Crons":   {256, func(p *api.Plan, n int) { p.Crons = slices.Repeat(p.Crons[:1], n) }},
		"Locals":  {256, func(p *api.Plan, n int) { p.Locals = n }},
	} {
		for _, n := range []int{3, x.most - 1, x.most, x.most + 1, 2 * x.most, 1<<16 + 3} {
			p := plan()
			x.fill(&p, n)
			if Formed(p) != (n <= x.most) {
				t.Errorf("%d %s: %t", n, name, Formed(p))
			}
		}
	}
	for _, locals := range []int{-1, -2, math.MinInt, math.MaxInt, 1 << 32} {
		p := simple(hold)
		p.Locals = locals
		formedIs(t, p, false)
	}
	for locals, want := range map[int]bool{0: false, 1: false, 2: true, 3: true, 256: true} {
		p := plan()
		p.Locals = locals
		formedIs(t, p, want)
	}
}

func TestP15_1FormedWindowsAndSchedules(t *testing.T) {
	for _, w := range []api.Win{{Metric: -1, Agg: 1, Span: 1}, {Metric: 2, Agg: 1, Span: 1}, {Metric: 3, Agg: 1, Span: 1}, {Metric: math.MaxInt, Agg: 1, Span: 1}, {Metric: math.MinInt, Agg: 1, Span: 1},
		{}, {Agg: 1}, {Agg: 0, Span: 1}, {Agg: 7, Span: 1}, {Agg: 1, Span: 604801}, {Agg: 1, Span: -1}, {Agg: 1, Span: 1, Rank: 1}, {Agg: 6, Span: 1}, {Agg: 6, Span: 1, Rank: 100000001}} {
		for i := range 3 {
			p := plan()
			p.Wins[i] = w
			formedIs(t, p, false)
		}
		p := plan()
		p.Wins = append(p.Wins, w) // one that no core asks for
		formedIs(t, p, false)
	}
	for _, c := range []api.Cron{{}, {Minute: 1 << 60, Hour: 1, Day: 2, Month: 2, Week: 1}, {Minute: 1, Hour: 1, Day: 1, Month: 2, Week: 1}, {Minute: 1, Hour: 1, Day: 2, Month: 2}, {Minute: 1, Hour: 1, Day: 2, Month: 2, Week: 1 << 7}} {
		for i := range 2 {
			p := plan()
			p.Crons[i] = c
			formedIs(t, p, false)
		}
		p := plan()
		p.Crons = append(p.Crons, c)
		formedIs(t, p, false)
	}
	for metrics, want := range map[int]bool{0: false, 1: false, 2: true, 3: true} {
		p := plan()
		p.Metrics = slices.Repeat([]string{"m"}, metrics)
		formedIs(t, p, want)
	}
	p := plan()
	p.Wins = p.Wins[:2]
	formedIs(t, p, false)
	p = plan()
	p.Crons = p.Crons[:1]
	formedIs(t, p, false)
	p = plan()
	p.Metrics, p.Wins = nil, nil
	formedIs(t, p, false)
}

func TestP15_1FormedGuards(t *testing.T) {
	sorts := samples()
	for when, list := range sorts {
		for then, acts := range sorts {
			for _, w := range list {
				for _, a := range acts {
					for i := range 3 { // ahead of, between and behind others
						p := plan()
						p.Locals, p.Final = 4, hold
						p.Guards = slices.Insert([]api.Guard{{When: yes, Then: hold}, {When: no, Then: hold}}, i, api.Guard{When: w, Then: a})
						formedIs(t, p, when == 2 && then == 3)
					}
				}
			}
		}
	}
	p := plan()
	p.Guards = append(p.Guards, api.Guard{})
	formedIs(t, p, false)
}

func TestP15_1FormedNodes(t *testing.T) {
	// A guard of two nodes, and a Final of as many as are left.
	for _, nodes := range []int{4095, 4096, 4097, 4098, 8192, 60000} {
		p := simple(of(api.OTo, deep(api.ONeg, nodes-2, rep)))
		formedIs(t, p, nodes <= 4096)
		p.Final = of(api.OTo, deep(api.ONeg, nodes-4, rep))
		p.Guards = []api.Guard{{When: no, Then: hold}}
		formedIs(t, p, nodes <= 4096)
		p.Guards[0].Then, p.Final = p.Final, hold
		formedIs(t, p, nodes <= 4096)
		p.Guards[0] = api.Guard{When: deep(api.ONot, nodes-3, no), Then: hold}
		formedIs(t, p, nodes <= 4096)
	}
	for guards, want := range map[int]bool{2046: true, 2047: true, 2048: false, 2049: false, 1 << 17: false} {
		p := simple(hold)
		p.Guards = slices.Repeat([]api.Guard{{When: no, Then: hold}}, guards)
		formedIs(t, p, want)
	}
	p := simple(of(api.OTo, rep)) // 2047 guards and one node less would do
	p.Guards = slices.Repeat([]api.Guard{{When: no, Then: hold}}, 2047)
	formedIs(t, p, true)
	p.Final = of(api.OTo, of(api.ONeg, rep))
	formedIs(t, p, false)
	formedIs(t, simple(of(api.OTo, doubled(50, rep))), false)
	formedIs(t, simple(of(api.OTo, deep(api.ONeg, 1<<16-2, rep))), false)
	formedIs(t, simple(rungs(make([]int64, 1<<18)...)), false)
}

func TestP15_1FormedMemos(t *testing.T) {
	sum := of(api.OAdd, num(1), rep)
	withLocals := func(n int, final api.Core, guards ...api.Guard) api.Plan {
		p := simple(final)
		p.Locals, p.Guards = n, guards
		return p
	}
	two := func(a, b api.Core) api.Plan { return withLocals(2, of(api.OTo, of(api.OMax, a, b))) }
	formedIs(t, two(memo(0, sum), memo(0, sum)), true)
	formedIs(t, two(memo(0, sum), memo(0, copyCore(sum))), true)
	formedIs(t, two(memo(0, sum), memo(1, rep)), true)
	formedIs(t, two(memo(0, sum), memo(1, sum)), true)
	formedIs(t, two(memo(1, sum), sum), true)
	formedIs(t, two(memo(0, memo(1, sum)), memo(1, sum)), true)
	formedIs(t, two(memo(1, sum), memo(0, memo(1, sum))), true)
	for _, other := range []api.Core{rep, num(1), of(api.OAdd, rep, num(1)), of(api.OAdd, num(2), rep), of(api.OSub, num(1), rep), of(api.ONeg, sum), memo(1, sum)} {
		formedIs(t, two(memo(0, sum), memo(0, other)), false)
		formedIs(t, two(memo(0, other), memo(0, sum)), false)
	}
	formedIs(t, two(memo(0, memo(1, sum)), memo(1, rep)), false)
	formedIs(t, two(memo(0, memo(0, sum)), rep), false) // the parts are a memo and what stands in it
	formedIs(t, two(memo(0, memo(1, memo(0, sum))), rep), false)
	formedIs(t, two(memo(2, sum), rep), false)
	formedIs(t, two(memo(-1, sum), rep), false)
	// In each other place of a plan.
	for _, x := range []struct {
		part api.Core
		want bool
	}{{sum, true}, {rep, false}} {
		act, less := of(api.OTo, memo(1, x.part)), of(api.OLess, memo(1, x.part), num(3))
		like, unlike := of(api.OBy, memo(1, sum)), api.Guard{When: yes, Then: hold}
		formedIs(t, withLocals(2, act, api.Guard{When: no, Then: like}), x.want)
		formedIs(t, withLocals(2, like, unlike, api.Guard{When: less, Then: hold}, unlike), x.want)
		formedIs(t, withLocals(2, hold, unlike, api.Guard{When: less, Then: like}), x.want)
		formedIs(t, withLocals(2, rungs(1, 2), api.Guard{When: no, Then: act}, api.Guard{When: no, Then: like}), x.want)
		formedIs(t, withLocals(2, of(api.OLadder, memo(1, sum), num(1), act, hold)), x.want)
		formedIs(t, withLocals(2, of(api.OLadder, memo(1, sum), num(1), hold, act)), x.want)
	}
	// Truths and numbers with one N can't be the same.
	formedIs(t, withLocals(1, of(api.OTo, of(api.OIf, memo(0, yes), memo(0, num(1)), rep))), false)
	many := rep
	for i := range int64(256) {
		many = of(api.OMax, many, of(api.OMin, memo(i, num(i)), memo(i, num(i))))
	}
	formedIs(t, withLocals(256, of(api.OTo, many)), true)
	formedIs(t, withLocals(255, of(api.OTo, many)), false)
	formedIs(t, withLocals(256, of(api.OTo, of(api.OMax, many, memo(255, num(254))))), false)
}

func TestP15_1FormedLargeMemos(t *testing.T) {
	// All locals nested in one another, and this twice: each of them is held against its like.
	nested := rep
	for i := range int64(256) {
		nested = memo(i, of(api.OAdd, nested, num(i)))
	}
	p := simple(of(api.OTo, of(api.OMul, nested, copyCore(nested))))
	p.Locals = 256
	formedIs(t, p, true)
	p.Final = of(api.OTo, of(api.OMul, nested, memo(0, of(api.OAdd, rep, num(1)))))
	formedIs(t, p, false)
	p.Final = of(api.OTo, deep(api.OMax, 600, rep, memo(7, of(api.OMax, rep, of(api.ONeg, rep)))))
	formedIs(t, p, true)
	p.Metrics = []string{strings.Repeat("m", 1<<20)}
	formedIs(t, p, true)
}
