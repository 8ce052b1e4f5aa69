package mean

import (
	"math/rand"
	"slices"
	"testing"

	"capstan/api"
	"capstan/core"
)

// maker makes plans and histories by chance, always the same ones from one seed.
type maker struct {
	*rand.Rand
}

func newMaker(seed int64) *maker {
	return &maker{rand.New(rand.NewSource(seed))}
}

func one[T any](m *maker, list ...T) T {
	return list[m.Intn(len(list))]
}

// plan answers a formed plan that looks at all of its windows and schedules.
func (m *maker) plan() api.Plan {
	p := watching(m.Intn(4))
	if len(p.Metrics) > 0 {
		for range m.Intn(8) {
			p.Wins = append(p.Wins, m.win(len(p.Metrics)))
		}
	}
	sum := api.Core{Op: api.ORep}
	for i := range p.Wins {
		win := api.Core{Op: api.OWin, N: int64(i)}
		if m.Intn(4) > 0 {
			win = api.Core{Op: api.OEither, Parts: []api.Core{win, {Op: api.ONum, N: 77 * api.One}}}
		}
		sum = api.Core{Op: one(m, api.OAdd, api.OSub, api.OMax, api.ODiv), Parts: []api.Core{sum, win}}
	}
	for i := range m.Intn(4) {
		p.Crons = append(p.Crons, m.cron())
		p.Guards = append(p.Guards, api.Guard{When: api.Core{Op: api.OCron, N: int64(i)}, Then: m.action(sum)})
	}
	p.Final = m.action(sum)
	return p
}

func (m *maker) action(part api.Core) api.Core {
	if m.Intn(8) == 0 {
		return api.Core{Op: api.OHold}
	}
	return api.Core{Op: one(m, api.OTo, api.OBy), Parts: []api.Core{part}}
}

func (m *maker) win(metrics int) api.Win {
	w := api.Win{Metric: m.Intn(metrics), Agg: 1 + m.Intn(6), Span: one[int64](m, 1, 2, 5, 10, 60, 1000, api.MaxSpan)}
	if w.Agg == api.ARank {
		w.Rank = one[int64](m, 1, 25*api.One, 50*api.One, 99*api.One, 100*api.One)
	}
	return w
}

func (m *maker) cron() api.Cron {
	bits := func(from, to int) uint64 {
		full := uint64(1)<<(to+1) - 1<<from
		return one(m, full, full, full&m.Uint64()|1<<to, 1<<(from+m.Intn(to-from+1)))
	}
	return api.Cron{Minute: bits(0, 59), Hour: bits(0, 23), Day: bits(1, 31), Month: bits(1, 12), Week: bits(0, 6)}
}

func (m *maker) value() int64 {
	return one(m, int64(m.Intn(9)-4), int64(m.Intn(9)-4)*api.One, m.Int63()-m.Int63(), most, least)
}

// history answers events whose times mostly go on, at about the pace.
func (m *maker) history(metrics, length int, pace int64) []api.Event {
	now := one(m, 0, -50, m.Int63n(4e9)-2e9)
	var l []api.Event
	for range length {
		if m.Intn(3) > 0 {
			now += m.Int63n(pace)
		}
		e := api.Event{Kind: api.ESample, Id: m.Intn(metrics + 1), Value: m.value(), Time: now}
		switch m.Intn(12) {
		case 0:
			e.Kind = one(m, 0, 3, -1, 1<<32+1)
			e.Time += m.Int63n(100)
		case 1:
			e.Id = one(m, -1, metrics, metrics+1, most, least)
			e.Time += m.Int63n(100)
		case 2, 3:
			e.Kind = api.ETick
			e.Id = m.Intn(9) - 4
		case 4, 5:
			e.Time -= m.Int63n(2 * pace)
		}
		l = append(l, e)
	}
	return l
}

// agrees asserts that all three calls answer what the second way does; it answers the errno.
func agrees(t *testing.T, p api.Plan, l []api.Event, at, rep int64) api.Errno {
	t.Helper()
	if got, want := Taken(p, l), plainTaken(len(p.Metrics), l); !slices.Equal(got, want) {
		t.Fatalf("Taken of %s: %s, wanted %s", brief(l), brief(got), brief(want))
	}
	want, why := plainEnv(p, l, at, rep)
	if got, errno := Env(p, l, at, rep); errno != why || !sameEnv(got, want) {
		t.Fatalf("Env of %s at %d behind %s: %s, %d, wanted %s, %d", brief(p), at, brief(l), brief(got), errno, brief(want), why)
	}
	raw := api.Raw{}
	if why == api.OK {
		raw, _ = core.Decide(p, want)
	}
	if got, errno := Decide(p, l, at, rep); errno != why || got != raw {
		t.Fatalf("Decide of %s at %d behind %s: %v, %d, wanted %v, %d", brief(p), at, brief(l), got, errno, raw, why)
	}
	return why
}

// moment answers a time about the clock behind l, or about one of its events.
func (m *maker) moment(p api.Plan, l []api.Event) int64 {
	list := plainTaken(len(p.Metrics), l)
	if len(list) == 0 {
		return m.Int63n(2e9)
	}
	clock := list[len(list)-1].Time
	return clock + one(m, 0, 0, 1, -1, m.Int63n(100), m.Int63n(100000), one(m, list...).Time-clock)
}

func TestP17RandomHistories(t *testing.T) {
	m := newMaker(1)
	counts := map[api.Errno]int{}
	for range 4000 {
		p := m.plan()
		if m.Intn(20) == 0 {
			p.Rules.Step = 0
		}
		l := m.history(len(p.Metrics), m.Intn(60), one[int64](m, 2, 8, 40, 2000))
		for range 4 {
			counts[agrees(t, p, l[:m.Intn(len(l)+1)], m.moment(p, l), int64(m.Intn(20)))]++
		}
	}
	for _, errno := range []api.Errno{api.OK, api.ErrForm, api.ErrStale} {
		if counts[errno] < 300 {
			t.Error(errno, counts)
		}
	}
}

func TestP17RandomLongHistories(t *testing.T) {
	m := newMaker(2)
	for range 12 {
		p := watching(2)
		for range 12 {
			p.Wins = append(p.Wins, m.win(2))
		}
		l := m.history(2, 12000, one[int64](m, 1, 2, 30))
		l = Taken(p, l) // the second way is slow where there is much to pass over
		clock := l[len(l)-1].Time
		for _, at := range []int64{clock, clock + 1, clock + 50, clock + 100000} {
			want, _ := plainEnv(p, l, at, 3)
			sees(t, p, l, at, 3, want)
		}
	}
}

// Events in any order, of few times: what is taken hangs on each that came ahead.
func TestP17_1RandomOrders(t *testing.T) {
	m := newMaker(3)
	for range 20000 {
		var l []api.Event
		for range m.Intn(12) {
			l = append(l, api.Event{Kind: m.Intn(4), Id: m.Intn(5) - 1, Value: m.value(), Time: one[int64](m, least, least+1, -1, 0, 0, 1, 1, 2, 2, 3, most-1, most)})
		}
		n := m.Intn(4)
		if got, want := Taken(metrics(n), l), plainTaken(n, l); !slices.Equal(got, want) {
			t.Fatalf("Taken of %v, %d metrics: %v, wanted %v", l, n, got, want)
		}
	}
}
