package prune

import (
	"math/rand"
	"slices"
	"testing"

	"capstan/api"
	"capstan/core"
	"capstan/fold"
	"capstan/mean"
)

// maker makes plans by chance, always the same ones from one seed.
type maker struct {
	*rand.Rand
	wins, crons int
	numbers     []api.Core // parts of the OMemos
	actions     []api.Core // that come again and again
}

func newMaker(seed int64) *maker {
	return &maker{Rand: rand.New(rand.NewSource(seed))}
}

func (m *maker) among(list ...int) int {
	return list[m.Intn(len(list))]
}

func (m *maker) number(depth int) api.Core {
	switch n := m.Intn(12); {
	case n < 2 && len(m.numbers) > 0:
		i := m.Intn(len(m.numbers))
		return memo(int64(i), m.numbers[i])
	case n < 5 && m.wins > 0:
		return win(m.Int63n(int64(m.wins)))
	case depth == 0 || n < 6:
		return num((m.Int63n(9) - 4) * api.One)
	case n < 7:
		return rep
	case n < 8:
		return of(api.OEither, m.number(depth-1), m.number(depth-1))
	case n < 9:
		return of(api.OIf, m.truth(depth-1), m.number(depth-1), m.number(depth-1))
	case n < 10:
		return fail(1+m.Int63n(3), 1)
	case n < 11:
		return scaled(m.Int63n(5), 1+m.Int63n(5), m.number(depth-1))
	}
	return of(m.among(api.OAdd, api.OSub, api.OMul, api.ODiv, api.OMin, api.OMax), m.number(depth-1), m.number(depth-1))
}

func (m *maker) truth(depth int) api.Core {
	switch n := m.Intn(8); {
	case n < 2 && m.crons > 0:
		return sched(m.Int63n(int64(m.crons)))
	case depth == 0 || n < 3:
		return api.Core{Op: api.OBool, N: m.Int63n(2)}
	case n < 4:
		return of(api.ONot, m.truth(depth-1))
	case n < 5:
		return of(m.among(api.OAnd, api.OOr, api.OEither), m.truth(depth-1), m.truth(depth-1))
	}
	return of(m.among(api.OLess, api.OLeq, api.OEq, api.OMore, api.OMeq), m.number(depth-1), m.number(depth-1))
}

func (m *maker) action(depth int) api.Core {
	switch n := m.Intn(8); {
	case n < 3 && len(m.actions) > 0:
		return m.actions[m.Intn(len(m.actions))]
	case depth == 0 || n == 3:
		return hold
	case n == 4:
		return of(m.among(api.OTo, api.OBy), m.number(depth-1))
	}
	c := ladder(m.number(depth - 1))
	bound := m.Int63n(9) - 4
	for range m.Intn(5) {
		c.Parts = append(c.Parts, num(bound*api.One), m.action(depth-1))
		bound += 1 + m.Int63n(3)
	}
	c.Parts = append(c.Parts, m.action(depth-1))
	return c
}

// plan answers a formed plan.
func (m *maker) plan() api.Plan {
	for {
		if p := m.anySize(); nodes(p) <= api.MaxCore {
			return p
		}
	}
}

func nodes(p api.Plan) int {
	sum := core.Nodes(p.Final)
	for _, g := range p.Guards {
		sum += core.Nodes(g.When) + core.Nodes(g.Then)
	}
	return sum
}

// anySize answers a plan that is formed, if it hasn't too many nodes, with OMemos of one N that are alike, and with actions
// that come again.
func (m *maker) anySize() api.Plan {
	p := api.Plan{Metrics: []string{"a", "b"}, Rules: api.Rules{Max: 9, Step: 3}, Locals: 8}
	m.wins, m.crons, m.numbers, m.actions = m.Intn(8), m.Intn(5), nil, nil
	for range m.wins {
		p.Wins = append(p.Wins, api.Win{Metric: m.Intn(2), Agg: 1 + m.Intn(5), Span: 1 + m.Int63n(60)})
	}
	for range m.crons {
		c := daily
		c.Minute, c.Hour = 1+m.Uint64()%(1<<59), 1+m.Uint64()%(1<<23)
		p.Crons = append(p.Crons, c)
	}
	for range m.Intn(4) {
		m.numbers = append(m.numbers, m.number(2))
	}
	for range m.Intn(4) {
		m.actions = append(m.actions, m.action(m.Intn(3)))
	}
	for range m.Intn(6) {
		when := m.truth(3)
		if m.Intn(4) == 0 {
			when = api.Core{Op: api.OBool, N: m.Int63n(3) / 2}
		}
		p.Guards = append(p.Guards, guard(when, m.action(m.Intn(4))))
	}
	p.Final = m.action(m.Intn(4))
	return p
}

// history answers events up to a time, some of them late.
func (m *maker) history(from int64) []api.Event {
	var l []api.Event
	for range m.Intn(20) {
		from += m.Int63n(15)
		l = append(l, api.Event{Kind: 1 + m.Intn(8)/7, Id: m.Intn(7) / 3, Value: (m.Int63n(15) - 7) * api.One, Time: from - m.Int63n(12)/11*20})
	}
	return l
}

// saysTheSame wants that both plans say the same behind histories, and when they see it directly.
func (m *maker) saysTheSame(t *testing.T, p, pruned api.Plan) {
	t.Helper()
	for range 6 {
		from := m.Int63n(1 << 32)
		l, at, replicas := m.history(from), from+300+m.Int63n(60), m.Int63n(10)
		want, why := mean.Decide(p, l, at, replicas)
		if got, errno := mean.Decide(pruned, l, at, replicas); got != want || errno != why || why != api.OK {
			t.Fatalf("%s says %v, %d at %d behind %v, wanted %v, %d as %s", brief(pruned), got, errno, at, l, want, why, brief(p))
		}
	}
}

func TestP19RandomPlans(t *testing.T) {
	m := newMaker(1)
	var guards, met, rungs, wins, crons, stayed int
	for range 20000 {
		p := m.plan()
		pruned, errno := Plan(p)
		if errno != api.OK || !core.Formed(pruned) {
			t.Fatalf("Plan(%s) = %s, %d", brief(p), brief(pruned), errno)
		}
		if becomes(t, p, plainPrune(p)); t.Failed() {
			return
		}
		m.saysTheSame(t, p, pruned)
		guards += sign(len(pruned.Guards) < len(p.Guards))
		met += sign(slices.ContainsFunc(p.Guards, func(g api.Guard) bool { return core.Same(g.When, yes) }))
		rungs += sign(core.Nodes(pruned.Final) < core.Nodes(p.Final))
		wins += sign(len(pruned.Wins) < len(p.Wins) && len(pruned.Wins) > 0)
		crons += sign(len(pruned.Crons) < len(p.Crons) && len(pruned.Crons) > 0)
		stayed += sign(samePlan(p, pruned))
	}
	for _, count := range []int{guards, met, rungs, wins, crons, stayed} {
		if count < 100 {
			t.Error(guards, met, rungs, wins, crons, stayed)
		}
	}
}

func sign(holds bool) int {
	if holds {
		return 1
	}
	return 0
}

// seen answers the Env of the pruned plan in which its windows and schedules tell what they told in v.
func seen(p api.Plan, v api.Env) api.Env {
	left := api.Env{Rep: v.Rep}
	guards, final := plainGuards(p.Guards, p.Final)
	p.Guards, p.Final = guards, final
	for _, n := range plainNumbers(p, api.OWin) {
		left.Wins = append(left.Wins, v.Wins[n])
	}
	for _, n := range plainNumbers(p, api.OCron) {
		left.Crons = append(left.Crons, v.Crons[n])
	}
	return left
}

// Whatever the windows tell, beyond what histories bring about.
func TestP19_2RandomEnvs(t *testing.T) {
	m := newMaker(2)
	reasons := map[api.Reason]int{}
	for range 10000 {
		p := m.plan()
		pruned, _ := Plan(p)
		for range 6 {
			v := api.Env{Rep: m.Int63n(10)}
			for range p.Wins {
				told := api.Result{N: (m.Int63n(13) - 6) * api.One}
				if m.Intn(6) == 0 {
					told = api.Result{Reason: api.Reason(1 + m.Intn(3))}
				}
				v.Wins = append(v.Wins, told)
			}
			for range p.Crons {
				v.Crons = append(v.Crons, m.Intn(2) == 0)
			}
			want, why := core.Decide(p, v)
			got, errno := core.Decide(pruned, seen(p, v))
			if got != want || errno != why || why != api.OK {
				t.Fatalf("%s says %v, %d in %v, wanted %v, %d as %s", brief(pruned), got, errno, v, want, why, brief(p))
			}
			reasons[got.Reason]++
		}
	}
	for reason := api.Fine; reason <= api.Asked; reason++ {
		if reasons[reason] < 500 {
			t.Error(reasons)
		}
	}
}

// The passes one behind another, in whatever order, say what the plan says.
func TestP19_2RandomPlansFoldedToo(t *testing.T) {
	m := newMaker(3)
	for range 3000 {
		p := m.plan()
		folded, _ := fold.Plan(p)
		first, errno := Plan(folded)
		pruned, _ := Plan(p)
		second, why := fold.Plan(pruned)
		if errno != api.OK || why != api.OK {
			t.Fatalf("%s: %d, %d", brief(p), errno, why)
		}
		m.saysTheSame(t, p, first)
		m.saysTheSame(t, p, second)
		if becomes(t, folded, first); t.Failed() {
			return
		}
	}
}

// spoiled answers c with one change somewhere in it, after which it may still be formed.
func (m *maker) spoiled(c api.Core) api.Core {
	if n := len(c.Parts); n > 0 && m.Intn(3) > 0 {
		c.Parts = slices.Clone(c.Parts)
		i := m.Intn(n)
		c.Parts[i] = m.spoiled(c.Parts[i])
		return c
	}
	switch m.Intn(5) {
	case 0:
		c.Op = m.Intn(36) - 1
	case 1:
		c.N = m.Int63n(9) - 2
	case 2:
		c.M = m.Int63n(5) - 1
	case 3:
		c.Parts = append(slices.Clone(c.Parts), m.number(1))
	case 4:
		c.Parts = slices.Clone(c.Parts[:max(0, len(c.Parts)-1)])
	}
	return c
}

func TestP19_1RandomPlansThatAreSpoiled(t *testing.T) {
	m := newMaker(4)
	formed, unformed := 0, 0
	for range 20000 {
		p := m.plan()
		if n := len(p.Guards); n > 0 && m.Intn(2) == 0 {
			i := m.Intn(n)
			p.Guards[i] = guard(m.spoiled(p.Guards[i].When), m.spoiled(p.Guards[i].Then))
		} else {
			p.Final = m.spoiled(p.Final)
		}
		if core.Formed(p) {
			becomes(t, p, plainPrune(p))
			formed++
		} else {
			noPlan(t, p)
			unformed++
		}
		if t.Failed() {
			return
		}
	}
	if formed < 2000 || unformed < 2000 {
		t.Error(formed, unformed)
	}
}

// anyTree answers a tree of any values.
func (m *maker) anyTree(depth int) api.Core {
	c := api.Core{Op: m.Intn(36) - 1, N: m.Int63n(4) - 1, M: m.Int63n(3) - 1}
	if m.Intn(9) == 0 {
		c.Op, c.N, c.M = int(m.Uint64()), int64(m.Uint64()), int64(m.Uint64())
	}
	if depth > 0 {
		for range m.Intn(5) {
			c.Parts = append(c.Parts, m.anyTree(depth-1))
		}
	}
	return c
}

func TestAnyPlansAreAnswered(t *testing.T) {
	m := newMaker(6)
	for range 20000 {
		p := simple(m.anyTree(m.Intn(4)))
		for range m.Intn(3) {
			p.Guards = append(p.Guards, guard(m.anyTree(m.Intn(4)), m.anyTree(m.Intn(4))))
		}
		p.Locals = m.Intn(5) - 1
		if core.Formed(p) {
			becomes(t, p, plainPrune(p))
		} else {
			noPlan(t, p)
		}
	}
}
