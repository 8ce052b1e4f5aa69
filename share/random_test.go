package share

import (
	"math/rand"
	"slices"
	"testing"

	"capstan/api"
	"capstan/core"
	"capstan/fold"
	"capstan/mean"
	"capstan/prune"
)

// maker makes plans by chance, always the same ones from one seed.
type maker struct {
	*rand.Rand
	wins, crons     int
	numbers, truths []api.Core // that come again and again
}

func newMaker(seed int64) *maker {
	return &maker{Rand: rand.New(rand.NewSource(seed))}
}

func (m *maker) among(list ...int) int {
	return list[m.Intn(len(list))]
}

func (m *maker) number(depth int) api.Core {
	switch n := m.Intn(14); {
	case n < 4 && len(m.numbers) > 0:
		return m.numbers[m.Intn(len(m.numbers))]
	case n < 6 && m.wins > 0:
		return win(m.Int63n(int64(m.wins)))
	case depth == 0 || n < 7:
		return num((m.Int63n(5) - 2) * api.One)
	case n < 8:
		return rep
	case n < 9:
		return of(api.OEither, m.number(depth-1), m.number(depth-1))
	case n < 10:
		return of(api.OIf, m.truth(depth-1), m.number(depth-1), m.number(depth-1))
	case n < 11:
		return fail(1+m.Int63n(3), 1)
	case n < 12:
		return scaled(m.Int63n(3), 1+m.Int63n(3), m.number(depth-1))
	case n < 13:
		return of(m.among(api.ONeg, api.OAbs, api.OCeil, api.OFloor), m.number(depth-1))
	}
	return of(m.among(api.OAdd, api.OSub, api.OMul, api.ODiv, api.OMin, api.OMax), m.number(depth-1), m.number(depth-1))
}

func (m *maker) truth(depth int) api.Core {
	switch n := m.Intn(10); {
	case n < 3 && len(m.truths) > 0:
		return m.truths[m.Intn(len(m.truths))]
	case n < 5 && m.crons > 0:
		return sched(m.Int63n(int64(m.crons)))
	case depth == 0 || n < 6:
		return api.Core{Op: api.OBool, N: m.Int63n(2)}
	case n < 7:
		return of(api.ONot, m.truth(depth-1))
	case n < 8:
		return of(m.among(api.OAnd, api.OOr, api.OEither), m.truth(depth-1), m.truth(depth-1))
	}
	return of(m.among(api.OLess, api.OLeq, api.OEq, api.OMore, api.OMeq), m.number(depth-1), m.number(depth-1))
}

func (m *maker) action(depth int) api.Core {
	switch n := m.Intn(6); {
	case depth == 0 || n == 0:
		return hold
	case n < 4:
		return of(m.among(api.OTo, api.OBy), m.number(depth-1))
	}
	c := ladder(m.number(depth - 1))
	bound := m.Int63n(9) - 4
	for range m.Intn(4) {
		c.Parts = append(c.Parts, num(bound*api.One), m.action(depth-1))
		bound += 1 + m.Int63n(3)
	}
	c.Parts = append(c.Parts, m.action(depth-1))
	return c
}

// lists gives p windows and schedules, some of them the same.
func (m *maker) lists(p *api.Plan) {
	m.wins, m.crons = m.Intn(8), m.Intn(5)
	for range m.wins {
		p.Wins = append(p.Wins, api.Win{Metric: m.Intn(2), Agg: m.among(api.ASum, api.ALow), Span: 10 + m.Int63n(2)*50})
	}
	for range m.crons {
		c := daily
		c.Minute, c.Hour = 1<<60-1-uint64(m.Intn(2))<<30, 1<<24-1-uint64(m.Intn(2))
		p.Crons = append(p.Crons, c)
	}
}

// plan answers a plan that is formed, with numbers and truths that come again.
func (m *maker) plan() api.Plan {
	for {
		p := api.Plan{Metrics: []string{"a", "b"}, Rules: api.Rules{Max: 9, Step: 3}}
		m.numbers, m.truths = nil, nil
		m.lists(&p)
		for range m.Intn(4) {
			m.numbers = append(m.numbers, m.number(2))
			m.truths = append(m.truths, m.truth(2))
		}
		for range m.Intn(6) {
			p.Guards = append(p.Guards, guard(m.truth(3), m.action(m.Intn(4))))
		}
		p.Final = m.action(m.Intn(5))
		if total(p) <= api.MaxCore {
			return p
		}
	}
}

// history answers events up to a time, some of them late.
func (m *maker) history(from int64) []api.Event {
	var l []api.Event
	for range m.Intn(20) {
		from += m.Int63n(15)
		l = append(l, api.Event{Kind: 1 + m.Intn(8)/7, Id: m.Intn(7) / 3, Value: (m.Int63n(15) - 7) * api.One, Time: from - m.Int63n(12)/11*20})
	}
	return l
}

// saysTheSame wants that both plans say the same behind histories.
func (m *maker) saysTheSame(t *testing.T, p, made api.Plan) {
	t.Helper()
	for range 6 {
		from := m.Int63n(1 << 32)
		l, at, replicas := m.history(from), from+300+m.Int63n(60), m.Int63n(10)
		want, why := mean.Decide(p, l, at, replicas)
		if got, errno := mean.Decide(made, l, at, replicas); got != want || errno != why || why != api.OK {
			t.Fatalf("%s says %v, %d at %d behind %v, wanted %v, %d as %s", brief(made), got, errno, at, l, want, why, brief(p))
		}
	}
}

// unlike wants that no two of the list are the same.
func unlike[T comparable](t *testing.T, list []T) {
	t.Helper()
	for i, x := range list {
		if slices.Contains(list[:i], x) {
			t.Errorf("%v is there twice", x)
		}
	}
}

func sign(holds bool) int {
	if holds {
		return 1
	}
	return 0
}

func TestP20RandomPlans(t *testing.T) {
	m := newMaker(1)
	var wins, crons, one, more, stayed int
	for range 20000 {
		p := m.plan()
		if becomes(t, p, plainShare(p)); t.Failed() {
			return
		}
		shared, _ := Plan(p)
		unlike(t, shared.Wins)
		unlike(t, shared.Crons)
		m.saysTheSame(t, p, shared)
		wins += sign(len(shared.Wins) < len(p.Wins))
		crons += sign(len(shared.Crons) < len(p.Crons))
		one += sign(shared.Locals == 1)
		more += sign(shared.Locals > 1)
		stayed += sign(samePlan(p, shared))
	}
	for _, count := range []int{wins, crons, one, more, stayed} {
		if count < 500 {
			t.Error(wins, crons, one, more, stayed)
		}
	}
}

// large answers a plan of many cores, many of which are there twice: there may be too few locals, or too many nodes.
func (m *maker) large() api.Plan {
	p := api.Plan{Metrics: []string{"a", "b"}, Rules: api.Rules{Max: 9, Step: 3}, Final: hold}
	m.lists(&p)
	m.numbers, m.truths = []api.Core{rep}, nil
	kinds, size := 200+m.Intn(200), 2400+m.Intn(900)
	for i := range kinds {
		within := m.numbers[m.Intn(min(len(m.numbers), 2))]
		m.numbers = append(m.numbers, scaled(int64(i), 1+m.Int63n(2), within))
	}
	for left := size - 1; ; {
		g := guard(of(api.OLess, m.numbers[m.Intn(kinds)], m.numbers[m.Intn(kinds)]), to(m.numbers[m.Intn(kinds)]))
		left -= core.Nodes(g.When) + core.Nodes(g.Then)
		if left < 0 {
			return p
		}
		p.Guards = append(p.Guards, g)
	}
}

func TestP20_1RandomLargePlans(t *testing.T) {
	m := newMaker(2)
	var all, few, full int
	for range 150 {
		p := m.large()
		want := plainShare(p)
		if total(want) > 4096 {
			noPlan(t, p, api.ErrLarge)
			full++
		} else {
			becomes(t, p, want)
			all += sign(want.Locals == 256)
			few += sign(want.Locals < 256)
		}
		if t.Failed() {
			return
		}
	}
	for _, count := range []int{all, few, full} {
		if count < 10 {
			t.Error(all, few, full)
		}
	}
}

// Whatever the windows tell, beyond what histories bring about: all cores of one number come to the same.
func TestP20_2RandomEnvs(t *testing.T) {
	m := newMaker(3)
	reasons := map[api.Reason]int{}
	for range 10000 {
		p := m.plan()
		shared, _ := Plan(p)
		_, nowWins := plainOnce(p.Wins)
		_, nowCrons := plainOnce(p.Crons)
		for range 6 {
			left := api.Env{Rep: m.Int63n(10), Wins: make([]api.Result, len(shared.Wins)), Crons: make([]bool, len(shared.Crons))}
			for i := range left.Wins {
				left.Wins[i] = api.Result{N: (m.Int63n(13) - 6) * api.One}
				if m.Intn(6) == 0 {
					left.Wins[i] = api.Result{Reason: api.Reason(1 + m.Intn(3))}
				}
			}
			for i := range left.Crons {
				left.Crons[i] = m.Intn(2) == 0
			}
			v := api.Env{Rep: left.Rep}
			for _, n := range nowWins { // like windows tell the same
				v.Wins = append(v.Wins, left.Wins[n])
			}
			for _, n := range nowCrons {
				v.Crons = append(v.Crons, left.Crons[n])
			}
			want, why := core.Decide(p, v)
			got, errno := core.Decide(shared, left)
			if got != want || errno != why || why != api.OK {
				t.Fatalf("%s says %v, %d in %v, wanted %v, %d as %s", brief(shared), got, errno, v, want, why, brief(p))
			}
			reasons[got.Reason]++
		}
	}
	for reason := api.Fine; reason <= api.Asked; reason++ {
		if reasons[reason] < 500 {
			t.Error(reasons)
		}
	}
}

// The passes one behind another, in whatever order, say what the plan says.
func TestP20_2RandomPlansOfOtherPasses(t *testing.T) {
	m := newMaker(4)
	passes := []func(api.Plan) (api.Plan, api.Errno){fold.Plan, prune.Plan, Plan}
	for range 1500 {
		p := m.plan()
		for _, order := range [][]int{{0, 2}, {1, 2}, {2, 0}, {2, 1}, {0, 1, 2}, {1, 0, 2}, {0, 2, 1}, {1, 2, 0}, {2, 0, 1}, {2, 1, 0}} {
			made := p
			for _, i := range order {
				next, errno := passes[i](made)
				if errno != api.OK {
					t.Fatalf("the pass %d of %v at %s: %d", i, order, brief(made), errno)
				}
				made = next
			}
			m.saysTheSame(t, p, made)
		}
	}
}

// spoiled answers c with one change somewhere in it, after which it may still be formed.
func (m *maker) spoiled(c api.Core) api.Core {
	if n := len(c.Parts); n > 0 && m.Intn(3) > 0 {
		c.Parts = slices.Clone(c.Parts)
		i := m.Intn(n)
		c.Parts[i] = m.spoiled(c.Parts[i])
		return c
	}
	switch m.Intn(6) {
	case 0:
		c.Op = m.Intn(36) - 1
	case 1:
		c.N = m.Int63n(9) - 2
	case 2:
		c.M = m.Int63n(5) - 1
	case 3:
		c.Parts = append(slices.Clone(c.Parts), m.number(1))
	case 4:
		c.Parts = slices.Clone(c.Parts[:max(0, len(c.Parts)-1)])
	case 5:
		c = memo(m.Int63n(2), c)
	}
	return c
}

// answered wants what the chapter says of p; it answers that error.
func answered(t *testing.T, p api.Plan) api.Errno {
	t.Helper()
	switch {
	case !core.Formed(p):
		noPlan(t, p, api.ErrForm)
		return api.ErrForm
	case p.Locals != 0:
		noPlan(t, p, api.ErrRange)
		return api.ErrRange
	}
	becomes(t, p, plainShare(p))
	return api.OK
}

func TestP20_1RandomPlansThatAreSpoiled(t *testing.T) {
	m := newMaker(5)
	answers := map[api.Errno]int{}
	for range 20000 {
		p := m.plan()
		if n := len(p.Guards); n > 0 && m.Intn(2) == 0 {
			i := m.Intn(n)
			p.Guards[i] = guard(m.spoiled(p.Guards[i].When), m.spoiled(p.Guards[i].Then))
		} else {
			p.Final = m.spoiled(p.Final)
		}
		p.Locals = max(0, m.Intn(6)-3)
		if answers[answered(t, p)]++; t.Failed() {
			return
		}
	}
	if answers[api.OK] < 1000 || answers[api.ErrForm] < 1000 || answers[api.ErrRange] < 1000 {
		t.Error(answers)
	}
}

// anyTree answers a tree of any values.
func (m *maker) anyTree(depth int) api.Core {
	c := api.Core{Op: m.Intn(36) - 1, N: m.Int63n(4) - 1, M: m.Int63n(3) - 1}
	if m.Intn(9) == 0 {
		c.Op, c.N, c.M = int(m.Uint64()), int64(m.Uint64()), int64(m.Uint64())
	}
	if depth > 0 {
		for range m.Intn(5) {
			c.Parts = append(c.Parts, m.anyTree(depth-1))
		}
	}
	return c
}

func TestAnyPlansAreAnswered(t *testing.T) {
	m := newMaker(6)
	for range 20000 {
		p := simple(m.anyTree(m.Intn(4)))
		for range m.Intn(3) {
			p.Guards = append(p.Guards, guard(m.anyTree(m.Intn(4)), m.anyTree(m.Intn(4))))
		}
		p.Locals = m.Intn(5) - 1
		answered(t, p)
	}
}
