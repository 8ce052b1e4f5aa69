package mean

import (
	"fmt"
	"math"
	"slices"
	"testing"

	"capstan/api"
	"capstan/check"
	"capstan/core"
	"capstan/fix"
)

const (
	least = math.MinInt64
	most  = math.MaxInt64
)

func sample(id int, value, time int64) api.Event {
	return api.Event{Kind: api.ESample, Id: id, Value: value, Time: time}
}

func tick(time int64) api.Event {
	return api.Event{Kind: api.ETick, Time: time}
}

// ticks answers a tick at each of the times.
func ticks(times ...int64) []api.Event {
	var l []api.Event
	for _, time := range times {
		l = append(l, tick(time))
	}
	return l
}

// metrics answers a plan with so many metrics, and nothing else in it.
func metrics(n int) api.Plan {
	return api.Plan{Metrics: make([]string, n)}
}

// summing answers the plan of the chapter's example: one metric, a window ASum over 10 seconds.
func summing() api.Plan {
	return watching(1, api.Win{Agg: api.ASum, Span: 10})
}

// watching answers a formed plan with so many metrics and these windows.
func watching(metrics int, wins ...api.Win) api.Plan {
	return api.Plan{
		Metrics: make([]string, metrics),
		Rules:   api.Rules{Max: 9, Step: 9},
		Wins:    wins,
		Final:   api.Core{Op: api.OHold},
	}
}

// example is the history of the chapter's example.
func example() []api.Event {
	return []api.Event{sample(0, 5, 0), tick(4), sample(0, 6, 3), sample(1, 9, 5), sample(0, 7, 5)}
}

// brief answers x as a text that isn't too long to be read.
func brief(x any) string {
	s := fmt.Sprint(x)
	return s[:min(len(s), 600)]
}

// loaded answers the plan of a policy's text.
func loaded(t *testing.T, s string) api.Plan {
	t.Helper()
	p, at, errno := check.Load(s)
	if errno != api.OK {
		t.Fatal(s, at, errno)
	}
	return p
}

// takes asserts which events of l, by their places, are taken where there are so many metrics.
func takes(t *testing.T, count int, l []api.Event, places ...int) {
	t.Helper()
	var want []api.Event
	for _, place := range places {
		want = append(want, l[place])
	}
	if got := Taken(metrics(count), l); !slices.Equal(got, want) {
		t.Errorf("Taken of %s, %d metrics: %s, wanted %s", brief(l), count, brief(got), brief(want))
	}
}

func sameEnv(a, b api.Env) bool {
	return a.Rep == b.Rep && slices.Equal(a.Wins, b.Wins) && slices.Equal(a.Crons, b.Crons)
}

// sees asserts what p sees, and that it says what core.Decide tells of that.
func sees(t *testing.T, p api.Plan, l []api.Event, at, rep int64, want api.Env) {
	t.Helper()
	if got, errno := Env(p, l, at, rep); errno != api.OK || !sameEnv(got, want) {
		t.Errorf("Env at %d behind %s: %s, %d, wanted %s", at, brief(l), brief(got), errno, brief(want))
	}
	raw, why := core.Decide(p, want)
	if got, errno := Decide(p, l, at, rep); got != raw || errno != why {
		t.Errorf("Decide at %d behind %s: %v, %d, wanted %v, %d", at, brief(l), got, errno, raw, why)
	}
}

// tells asserts what the windows of p, which has no schedules, tell.
func tells(t *testing.T, p api.Plan, l []api.Event, at int64, wins ...api.Result) {
	t.Helper()
	sees(t, p, l, at, 3, api.Env{Rep: 3, Wins: wins})
}

// fails asserts that both Env and Decide answer the error, and nothing beside it.
func fails(t *testing.T, p api.Plan, l []api.Event, at int64, want api.Errno) {
	t.Helper()
	if got, errno := Env(p, l, at, 3); errno != want || !sameEnv(got, api.Env{}) {
		t.Errorf("Env at %d behind %s: %s, %d, wanted %d", at, brief(l), brief(got), errno, want)
	}
	if got, errno := Decide(p, l, at, 3); errno != want || got != (api.Raw{}) {
		t.Errorf("Decide at %d behind %s: %v, %d, wanted %d", at, brief(l), got, errno, want)
	}
}

// says asserts what p says.
func says(t *testing.T, p api.Plan, l []api.Event, at, rep int64, want api.Raw) {
	t.Helper()
	if got, errno := Decide(p, l, at, rep); got != want || errno != api.OK {
		t.Errorf("Decide at %d behind %s: %v, %d, wanted %v", at, brief(l), got, errno, want)
	}
}

func fine(n int64) api.Result {
	return api.Result{N: n}
}

func lacks(reason api.Reason) api.Result {
	return api.Result{Reason: reason}
}

func TestP17_1Example(t *testing.T) {
	takes(t, 1, example(), 0, 1, 4)
}

func TestP17_1Clock(t *testing.T) {
	takes(t, 1, nil)
	takes(t, 1, []api.Event{})
	takes(t, 1, ticks(5), 0)
	takes(t, 1, ticks(5, 5, 4, 6, 5, 5, 6, 7), 0, 1, 3, 6, 7)
	takes(t, 1, ticks(-5, -6, -4, 0, -1), 0, 2, 3)
	// What is passed over doesn't move the clock, either way.
	takes(t, 1, []api.Event{tick(5), tick(1), tick(4), tick(5)}, 0, 3)
	takes(t, 1, []api.Event{tick(5), sample(1, 0, 9), {Kind: 3, Time: 9}, tick(6)}, 0, 3)
	takes(t, 1, []api.Event{sample(1, 0, 9), tick(0)}, 1)
	takes(t, 1, []api.Event{{Kind: 3, Time: 9}, tick(0)}, 1)
	// Samples and ticks have one clock, whatever their metric.
	takes(t, 2, []api.Event{sample(0, 1, 5), sample(1, 1, 4), sample(1, 1, 5), tick(4), tick(6), sample(0, 1, 5)}, 0, 2, 4)
}

func TestP17_1TimesAtTheEnds(t *testing.T) {
	takes(t, 1, ticks(least, least, most, most, least, most-1, 0), 0, 1, 2, 3)
	takes(t, 1, ticks(most, least, most-1, 0, most), 0, 4)
	takes(t, 1, ticks(least), 0)
	takes(t, 1, ticks(least+1, least, least+1), 0, 2)
	takes(t, 1, []api.Event{sample(0, 7, least), tick(least), sample(0, 8, least+1), tick(least)}, 0, 1, 2)
}

func TestP17_1Kinds(t *testing.T) {
	var l []api.Event
	var places []int
	for place, kind := range []int{0, 1, 2, 3, 4, -1, -2, 1 << 32, 1<<32 + 1, 1<<32 + 2, least, most} {
		l = append(l, api.Event{Kind: kind, Time: 5})
		if kind == api.ESample || kind == api.ETick {
			places = append(places, place)
		}
	}
	takes(t, 1, l, places...)
	takes(t, 64, l, places...)
}

func TestP17_1Ids(t *testing.T) {
	ids := []int{0, 1, 2, 63, 64, 65, -1, -64, 256, 1 << 32, 1<<32 + 1, least, most}
	var samples, others []api.Event
	for _, id := range ids {
		samples = append(samples, sample(id, 7, 5))
		others = append(others, api.Event{Kind: api.ETick, Id: id, Value: 7, Time: 5})
	}
	takes(t, 0, samples)
	takes(t, 1, samples, 0)
	takes(t, 2, samples, 0, 1)
	takes(t, 3, samples, 0, 1, 2)
	takes(t, 64, samples, 0, 1, 2, 3)
	// A tick's Id says nothing; it is answered as it came.
	for _, n := range []int{0, 1, 64} {
		takes(t, n, others, 0, 1, 2, 3, 4, 5, 6, 7, 8, 9, 10, 11, 12)
	}
}

// How many metrics there are is all that counts of a plan, formed or not.
func TestP17_1AnyPlan(t *testing.T) {
	takes(t, 65, []api.Event{sample(64, 1, 0), sample(65, 1, 0)}, 0)
	takes(t, 1000, []api.Event{sample(999, 1, 0), sample(1000, 1, 0)}, 0)
	odd := metrics(1)
	odd.Locals, odd.Rules = -1, api.Rules{Min: -1}
	odd.Wins, odd.Crons = []api.Win{{Metric: 7, Span: -1}}, []api.Cron{{}}
	odd.Final = api.Core{Op: -1, Parts: make([]api.Core, 5000)}
	for _, p := range []api.Plan{odd, summing(), {Metrics: []string{"\xff"}}} {
		l := example()
		if got := Taken(p, l); !slices.Equal(got, []api.Event{l[0], l[1], l[4]}) {
			t.Error(brief(p), got)
		}
	}
	if got := Taken(api.Plan{}, example()); !slices.Equal(got, ticks(4)) {
		t.Error(got)
	}
}

func TestP17_2Example(t *testing.T) {
	p, l := summing(), example()
	tells(t, p, l, 9, fine(12))
	tells(t, p, l, 10, fine(7))
	tells(t, p, l, 14, fine(7))
	tells(t, p, l, 15, fine(0))
	tells(t, p, l, 5, fine(12))
	fails(t, p, l, 4, api.ErrStale)
}

func TestP17_2Stale(t *testing.T) {
	p := summing()
	for _, at := range []int64{least, -1, 0, 1, most} {
		tells(t, p, nil, at, fine(0)) // without a clock no moment is below it
	}
	// Ticks move the clock as samples do, though no window sees them.
	fails(t, p, ticks(7), 6, api.ErrStale)
	tells(t, p, ticks(7), 7, fine(0))
	tells(t, p, ticks(7, 3, 5), 7, fine(0))
	fails(t, p, ticks(3, 7, 3), 6, api.ErrStale)
	fails(t, p, []api.Event{sample(0, 1, 3), tick(7)}, 6, api.ErrStale)
	fails(t, p, []api.Event{tick(7), sample(0, 1, 8)}, 7, api.ErrStale)
	fails(t, p, []api.Event{sample(0, 1, 7), tick(7), tick(7)}, 6, api.ErrStale)
	// What is passed over doesn't.
	passed := []api.Event{sample(1, 1, 9), sample(-1, 1, 9), {Kind: 0, Time: 9}, {Kind: 3, Time: 9}}
	tells(t, p, passed, least, fine(0))
	tells(t, p, append(ticks(4), passed...), 4, fine(0))
	fails(t, p, append(ticks(4), passed...), 3, api.ErrStale)
	// A metric that no window is of moves it too, and so it does of a plan without windows.
	fails(t, watching(2, api.Win{Agg: api.ASum, Span: 10}), []api.Event{sample(1, 1, 8)}, 7, api.ErrStale)
	fails(t, watching(1), []api.Event{sample(0, 1, 8)}, 7, api.ErrStale)
	tells(t, watching(1), []api.Event{sample(0, 1, 8)}, 8)
	fails(t, watching(0), ticks(8), 7, api.ErrStale)
	tells(t, watching(0), []api.Event{sample(0, 1, 8)}, 7)
	// At the ends of int64.
	fails(t, p, ticks(most), most-1, api.ErrStale)
	fails(t, p, ticks(most), least, api.ErrStale)
	tells(t, p, ticks(most), most, fine(0))
	tells(t, p, ticks(least), least, fine(0))
	fails(t, p, ticks(least+1), least, api.ErrStale)
}

func TestP17_2NotFormed(t *testing.T) {
	spoil := []func(*api.Plan){
		func(p *api.Plan) { *p = api.Plan{} },
		func(p *api.Plan) { p.Metrics = make([]string, api.MaxMetrics+1) },
		func(p *api.Plan) { p.Metrics = nil },
		func(p *api.Plan) { p.Rules.Max = 0 },
		func(p *api.Plan) { p.Rules.Step = 0 },
		func(p *api.Plan) { p.Wins[0].Metric = 1 },
		func(p *api.Plan) { p.Wins[0].Metric = -1 },
		func(p *api.Plan) { p.Wins[0].Span = 0 },
		func(p *api.Plan) { p.Wins[0].Agg = 7 },
		func(p *api.Plan) { p.Wins[0].Rank = 1 },
		func(p *api.Plan) { p.Wins = slices.Repeat(p.Wins, api.MaxWins+1) },
		func(p *api.Plan) { p.Crons = []api.Cron{{}} },
		func(p *api.Plan) { p.Locals = -1 },
		func(p *api.Plan) { p.Locals = api.MaxLocals + 1 },
		func(p *api.Plan) { p.Guards = make([]api.Guard, 1) },
		func(p *api.Plan) { p.Final = api.Core{Op: api.ORep} },
		func(p *api.Plan) { p.Final = api.Core{} },
	}
	for i, change := range spoil {
		p := summing()
		change(&p)
		if core.Formed(p) {
			t.Error(i)
		}
		fails(t, p, nil, 0, api.ErrForm)
		fails(t, p, example(), 9, api.ErrForm)
		fails(t, p, ticks(9), 8, api.ErrForm) // ahead of ErrStale
		fails(t, p, ticks(most), least, api.ErrForm)
	}
}

func TestP17_2EachAggregate(t *testing.T) {
	p := watching(1,
		api.Win{Agg: api.ASum, Span: 10}, api.Win{Agg: api.AAvg, Span: 10}, api.Win{Agg: api.ALow, Span: 10},
		api.Win{Agg: api.AHigh, Span: 10}, api.Win{Agg: api.ACount, Span: 10}, api.Win{Agg: api.ARank, Span: 10, Rank: 50 * api.One})
	l := []api.Event{sample(0, 5, 0), sample(0, -8, 4), sample(0, 30, 4), sample(0, 2, 9)}
	tells(t, p, l, 9, fine(29), fine(7), fine(-8), fine(30), fine(4*api.One), fine(2))
	tells(t, p, l, 10, fine(24), fine(8), fine(-8), fine(30), fine(3*api.One), fine(2))
	tells(t, p, l, 14, fine(2), fine(2), fine(2), fine(2), fine(api.One), fine(2))
	none := lacks(api.NoData)
	tells(t, p, l, 19, fine(0), none, none, none, fine(0), none)
	tells(t, p, nil, 0, fine(0), none, none, none, fine(0), none)
	ends := []api.Event{sample(0, most, 0), sample(0, most, 0)}
	tells(t, p, ends, 0, lacks(api.Taint), fine(most), fine(most), fine(most), fine(2*api.One), fine(most))
}

// A window takes the samples of its own metric; windows of one metric, and of like terms, all do.
func TestP17_2EachMetric(t *testing.T) {
	sum := func(metric int, span int64) api.Win { return api.Win{Metric: metric, Agg: api.ASum, Span: span} }
	p := watching(3, sum(2, 10), sum(0, 10), sum(2, 10), sum(0, 3), sum(2, 1))
	l := []api.Event{sample(0, 1, 0), sample(1, 20, 0), sample(2, 300, 2), sample(0, 4000, 4), sample(2, 50000, 5), sample(3, 9, 5), sample(0, 7, 4)}
	tells(t, p, l, 5, fine(50300), fine(4001), fine(50300), fine(4000), fine(50000))
	tells(t, p, l, 7, fine(50300), fine(4001), fine(50300), fine(0), fine(0))
	tells(t, p, l, 12, fine(50000), fine(4000), fine(50000), fine(0), fine(0))
	tells(t, p, nil, 12, make([]api.Result, 5)...)
}

func TestP17_2TimesAtTheEnds(t *testing.T) {
	p := watching(1, api.Win{Agg: api.ACount, Span: api.MaxSpan})
	l := []api.Event{sample(0, 1, least), sample(0, 1, most)}
	tells(t, p, l, most, fine(api.One))
	tells(t, p, l[:1], least, fine(api.One))
	tells(t, p, l[:1], least+api.MaxSpan-1, fine(api.One))
	tells(t, p, l[:1], least+api.MaxSpan, fine(0))
	tells(t, p, l[:1], 0, fine(0))
	tells(t, p, l[:1], most, fine(0))
}

// A window holds the newest MaxSamples of its own metric's samples; others, and ticks, drive none
// of them out.
func TestP17_2VeryManySamples(t *testing.T) {
	p := watching(2, api.Win{Agg: api.ALow, Span: 10}, api.Win{Agg: api.ACount, Span: 10}, api.Win{Metric: 1, Agg: api.ALow, Span: 10}, api.Win{Metric: 1, Agg: api.ACount, Span: 10})
	l := []api.Event{sample(1, 7, 0)}
	for i := range int64(api.MaxSamples + 1) {
		l = append(l, sample(0, i+1, 0), tick(0), sample(0, -5, -1))
		switch low, count := fine(max(1, i+1-api.MaxSamples+1)), fine(fix.Whole(min(i+1, api.MaxSamples))); i {
		case 0, 1, 2, 99, api.MaxSamples - 2, api.MaxSamples - 1, api.MaxSamples:
			tells(t, p, l, 9, low, count, fine(7), fine(api.One))
		}
	}
	tells(t, p, l, 9, fine(2), fine(api.MaxSamples*api.One), fine(7), fine(api.One))
	tells(t, p, l, 10, lacks(api.NoData), fine(0), lacks(api.NoData), fine(0))
}

// The samples that were driven out don't come back when newer ones are too old for a window, and a
// sum that was beyond int64 is one again.
func TestP17_2DrivenOut(t *testing.T) {
	p := watching(1, api.Win{Agg: api.ASum, Span: 10}, api.Win{Agg: api.ACount, Span: 5})
	l := []api.Event{sample(0, most, 0), sample(0, most, 1), sample(0, -3, 1)}
	for range api.MaxSamples - 2 {
		l = append(l, sample(0, 1, 4))
	}
	tells(t, p, l, 4, lacks(api.Taint), fine(api.MaxSamples*api.One))
	tells(t, p, append(l, sample(0, -3, 4)), 4, fine(api.MaxSamples-2-6), fine(api.MaxSamples*api.One))
	tells(t, p, append(l, sample(0, -3, 4)), 6, fine(api.MaxSamples-2-6), fine((api.MaxSamples-1)*api.One))
}

func TestP17_2Schedules(t *testing.T) {
	p := loaded(t, `policy p; replicas 1..9; metric q; guard cron("0 3 * * *") then hold; guard cron("* * 1 1 *") and not cron("5 * * * 4") then hold; decide hold;`)
	at := func(when int64, named ...bool) {
		t.Helper()
		sees(t, p, []api.Event{sample(0, 1, -1000000)}, when, 7, api.Env{Rep: 7, Crons: named})
	}
	at(0, false, true, false) // the 1st of January 1970, a Thursday
	at(300, false, true, true)
	at(359, false, true, true)
	at(360, false, true, false)
	at(3*3600, true, true, false)
	at(3*3600+59, true, true, false)
	at(3*3600+60, false, true, false)
	at(3*3600-1, false, true, false)
	at(-1, false, false, false)
	at(27*3600, true, false, false)
}

// It is the moment that is asked about that a schedule names, not the clock.
func TestP17_2SchedulesAtTheMoment(t *testing.T) {
	p := loaded(t, `policy p; replicas 1..9; guard cron("0 3 * * *") then to 1[rep]; decide to 6[rep];`)
	sees(t, p, ticks(3*3600), 3*3600+60, 2, api.Env{Rep: 2, Crons: []bool{false}})
	sees(t, p, ticks(0), 3*3600, 2, api.Env{Rep: 2, Crons: []bool{true}})
	says(t, p, ticks(3*3600), 3*3600, 2, api.Raw{Want: 1})
	says(t, p, ticks(3*3600), 3*3600+60, 2, api.Raw{Want: 6})
}

func TestP17_2AnyReplicas(t *testing.T) {
	p := summing()
	for _, rep := range []int64{least, -1, 0, 1, 9, 10, api.MaxReplicas + 1, most} {
		sees(t, p, example(), 9, rep, api.Env{Rep: rep, Wins: []api.Result{fine(12)}})
	}
}

func TestP17_2AsManyAsThereMayBe(t *testing.T) {
	p := watching(api.MaxMetrics)
	var want []api.Result
	var l []api.Event
	for i := range api.MaxMetrics {
		l = append(l, sample(i, int64(i+1), int64(i)))
	}
	for i := range api.MaxWins {
		metric, span := i*7%api.MaxMetrics, int64(1+i%50)
		p.Wins = append(p.Wins, api.Win{Metric: metric, Agg: api.ASum, Span: span})
		held := int64(api.MaxMetrics-metric) < span
		want = append(want, fine(map[bool]int64{true: int64(metric + 1)}[held]))
	}
	var named []bool
	for i := range api.MaxCrons {
		p.Crons = append(p.Crons, api.Cron{Minute: 1 << (i % 60), Hour: 1, Day: 2, Month: 2, Week: 16})
		named = append(named, i%60 == 1)
	}
	sees(t, p, l, api.MaxMetrics, 5, api.Env{Rep: 5, Wins: want, Crons: named})
}
