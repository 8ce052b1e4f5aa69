package fold

import (
	"math/rand"
	"slices"
	"testing"

	"capstan/api"
	"capstan/core"
)

// maker makes trees by chance, always the same ones from one seed.
type maker struct {
	*rand.Rand
	wins, crons, locals int
	memos               []api.Core // if it isn't nil: the parts of the OMemos, each in the place of its N
}

func newMaker(seed int64) *maker {
	return &maker{Rand: rand.New(rand.NewSource(seed)), wins: 3, crons: 2, locals: 6}
}

func (m *maker) among(list ...int) int {
	return list[m.Intn(len(list))]
}

// value answers a number that is small, or near a whole one, or at an end of int64.
func (m *maker) value() int64 {
	switch m.Intn(5) {
	case 0:
		return int64(m.Intn(5)) - 2
	case 1:
		return (int64(m.Intn(9))-4)*api.One + int64(m.Intn(3)) - 1
	case 2:
		return most - int64(m.Intn(3))
	case 3:
		return least + int64(m.Intn(3))
	}
	return m.Int63() - m.Int63()
}

// core answers a formed core of the sort, of at most depth levels below it.
func (m *maker) core(sort, depth int) api.Core {
	switch {
	case sort == 3:
		return m.action(depth)
	case depth == 0 || m.Intn(6) == 0:
		return m.leaf(sort)
	case m.Intn(8) == 0:
		return of(api.OEither, m.core(sort, depth-1), m.core(sort, depth-1))
	case m.Intn(8) == 0:
		return of(api.OIf, m.core(2, depth-1), m.core(sort, depth-1), m.core(sort, depth-1))
	case m.Intn(8) == 0:
		return m.memo(sort, depth)
	case sort == 2 && m.Intn(4) == 0:
		return of(api.ONot, m.core(2, depth-1))
	case sort == 2 && m.Intn(2) == 0:
		return of(m.among(joined...), m.core(2, depth-1), m.core(2, depth-1))
	case sort == 2:
		return of(m.among(compared...), m.core(1, depth-1), m.core(1, depth-1))
	case m.Intn(10) == 0:
		return scaled(max(0, m.value()), max(1, m.value()), m.core(1, depth-1))
	case m.Intn(4) == 0:
		return of(m.among(ofNumber...), m.core(1, depth-1))
	}
	return of(m.among(ofNumbers...), m.core(1, depth-1), m.core(1, depth-1))
}

func (m *maker) memo(sort, depth int) api.Core {
	if m.memos == nil {
		return memo(m.Int63n(int64(m.locals)), m.core(sort, depth-1))
	}
	if len(m.memos) < 2 {
		return m.core(sort, depth-1)
	}
	n := 2*m.Intn(len(m.memos)/2) + 2 - sort // the even ones are truths
	return memo(int64(n), m.memos[n])
}

// leaf answers rather what is known than what isn't.
func (m *maker) leaf(sort int) api.Core {
	switch {
	case m.Intn(6) == 0:
		return fail(1+m.Int63n(3), int64(sort))
	case sort == 2 && m.Intn(3) > 0:
		return truthIs(m.Intn(2) == 0)
	case sort == 2:
		return sched(m.Int63n(int64(m.crons)))
	case m.Intn(3) > 0:
		return num(m.value())
	case m.Intn(3) == 0:
		return rep
	}
	return win(m.Int63n(int64(m.wins)))
}

func (m *maker) action(depth int) api.Core {
	if depth == 0 || m.Intn(6) == 0 {
		return hold
	}
	if m.Intn(2) == 0 {
		return of(m.among(api.OTo, api.OBy), m.core(1, depth-1))
	}
	bounds := make([]int64, m.Intn(4))
	for i := range bounds {
		bounds[i] = m.value()
	}
	slices.Sort(bounds)
	c := of(api.OLadder, m.core(1, depth-1))
	for _, bound := range slices.Compact(bounds) {
		c.Parts = append(c.Parts, num(bound), m.action(depth-1))
	}
	c.Parts = append(c.Parts, m.action(depth-1))
	return c
}

func (m *maker) env() api.Env {
	v := api.Env{Rep: m.value()}
	if m.Intn(2) == 0 {
		v.Rep = int64(m.Intn(20))
	}
	for range m.wins {
		told := api.Result{N: m.value()}
		if m.Intn(3) == 0 {
			told.Reason = api.Reason(m.Intn(9) - 1)
		}
		v.Wins = append(v.Wins, told)
	}
	for range m.crons {
		v.Crons = append(v.Crons, m.Intn(2) == 0)
	}
	return v
}

// plan answers a formed plan, with OMemos of one N that are alike.
func (m *maker) plan() api.Plan {
	m.memos = []api.Core{}
	for n := range m.locals {
		m.memos = append(m.memos, m.core(2-n%2, 2)) // the odd ones are numbers
	}
	p := api.Plan{Metrics: []string{"a", "b"}, Rules: api.Rules{Max: 9, Step: 3}, Locals: m.locals}
	for range m.wins {
		p.Wins = append(p.Wins, api.Win{Metric: m.Intn(2), Agg: 1 + m.Intn(5), Span: 60})
	}
	for range m.crons {
		p.Crons = append(p.Crons, daily)
	}
	for range m.Intn(4) {
		p.Guards = append(p.Guards, api.Guard{When: m.core(2, 4), Then: m.core(3, 4)})
	}
	p.Final = m.core(3, 5)
	m.memos = nil
	return p
}

// spoiled answers c with one change somewhere in it, after which it may still be formed.
func (m *maker) spoiled(c api.Core) api.Core {
	if n := len(c.Parts); n > 0 && m.Intn(3) > 0 {
		c.Parts = slices.Clone(c.Parts)
		i := m.Intn(n)
		c.Parts[i] = m.spoiled(c.Parts[i])
		return c
	}
	switch m.Intn(5) {
	case 0:
		c.Op = m.Intn(36) - 1
	case 1:
		c.N = m.Int63n(9) - 2
	case 2:
		c.M = m.Int63n(5) - 1
	case 3:
		c.Parts = append(slices.Clone(c.Parts), m.core(1+m.Intn(3), 1))
	case 4:
		c.Parts = slices.Clone(c.Parts[:max(0, len(c.Parts)-1)])
	}
	return c
}

func TestP18_1RandomCores(t *testing.T) {
	m := newMaker(1)
	formed, unformed := 0, 0
	for range 20000 {
		c := m.core(1+m.Intn(3), 1+m.Intn(6))
		becomes(t, c, plainFold(c))
		for range 2 {
			c = m.spoiled(c)
			if core.Sort(c, 256, 256, 256) == 0 {
				noFold(t, c)
				unformed++
			} else {
				becomes(t, c, plainFold(c))
				formed++
			}
		}
		if t.Failed() {
			return
		}
	}
	if formed < 1000 || unformed < 1000 {
		t.Error(formed, unformed)
	}
}

// saysTheSame wants that both come to the same in the Env, as they stand or, actions, as what a plan says.
func saysTheSame(t *testing.T, sort int, c, folded api.Core, v api.Env) {
	t.Helper()
	if sort == 3 {
		p := api.Plan{Metrics: []string{"a"}, Rules: api.Rules{Max: 1, Step: 1}, Locals: 256}
		for range v.Wins {
			p.Wins = append(p.Wins, api.Win{Agg: api.ASum, Span: 1})
		}
		for range v.Crons {
			p.Crons = append(p.Crons, daily)
		}
		q := p
		p.Final, q.Final = unkept(c), unkept(folded)
		want, why := core.Decide(p, v)
		if got, errno := core.Decide(q, v); got != want || errno != why || why != api.OK {
			t.Fatalf("%v says %v, %d in %v, wanted %v, %d as %v", folded, got, errno, v, want, why, c)
		}
		return
	}
	want, why := core.Eval(c, v)
	if got, errno := core.Eval(folded, v); got != want || errno != why || why != api.OK {
		t.Fatalf("%v comes to %v, %d in %v, wanted %v, %d as %v", folded, got, errno, v, want, why, c)
	}
}

// unkept answers c with the parts of OMemos in their places: in a plan those of one N would have to be alike.
func unkept(c api.Core) api.Core {
	if c.Op == api.OMemo {
		return unkept(c.Parts[0])
	}
	c.Parts = slices.Clone(c.Parts)
	for i, part := range c.Parts {
		c.Parts[i] = unkept(part)
	}
	return c
}

func TestP18_2RandomCores(t *testing.T) {
	m := newMaker(2)
	fewer, stayed := 0, 0
	for range 20000 {
		sort := 1 + m.Intn(3)
		c := m.core(sort, 1+m.Intn(6))
		folded, errno := Core(c)
		if errno != api.OK || core.Sort(folded, m.wins, m.crons, m.locals) != sort {
			t.Fatalf("Core(%v) = %v, %d", c, folded, errno)
		}
		for range 5 {
			saysTheSame(t, sort, c, folded, m.env())
		}
		if core.Nodes(folded) > core.Nodes(c) {
			t.Fatalf("Core(%v) = %v: %d nodes", c, folded, core.Nodes(folded))
		}
		stays(t, folded)
		if core.Nodes(folded) < core.Nodes(c) {
			fewer++
		} else {
			stayed++
		}
	}
	if fewer < 5000 || stayed < 2000 {
		t.Error(fewer, stayed)
	}
}

func TestP18_2RandomPlans(t *testing.T) {
	m := newMaker(3)
	kept := 0
	for range 10000 {
		p := m.plan()
		folded, errno := Plan(p)
		if errno != api.OK || !core.Formed(folded) {
			t.Fatalf("Plan(%v) = %v, %d", p, folded, errno)
		}
		for range 5 {
			v := m.env()
			want, _ := core.Decide(p, v)
			if got, errno := core.Decide(folded, v); got != want || errno != api.OK {
				t.Fatalf("%v says %v, %d in %v, wanted %v as %v", folded, got, errno, v, want, p)
			}
		}
		want := core.Copy(p)
		for i, g := range p.Guards {
			want.Guards[i] = api.Guard{When: plainFold(g.When), Then: plainFold(g.Then)}
		}
		want.Final = plainFold(p.Final)
		planBecomes(t, p, want)
		planBecomes(t, folded, folded)
		if hasMemo(folded.Final) {
			kept++
		}
		if t.Failed() {
			return
		}
	}
	if kept < 500 {
		t.Error(kept)
	}
}

func hasMemo(c api.Core) bool {
	return c.Op == api.OMemo || slices.ContainsFunc(c.Parts, hasMemo)
}

// anyTree answers a tree of any values.
func (m *maker) anyTree(depth int) api.Core {
	c := api.Core{Op: m.Intn(36) - 1, N: m.value(), M: m.value()}
	if m.Intn(3) > 0 {
		c.N, c.M = m.Int63n(3), m.Int63n(3)
	}
	if m.Intn(9) == 0 {
		c.Op = int(m.value())
	}
	if depth > 0 {
		for range m.Intn(5) {
			c.Parts = append(c.Parts, m.anyTree(depth-1))
		}
	}
	return c
}

func TestAnyTreesAreAnswered(t *testing.T) {
	m := newMaker(4)
	for range 20000 {
		c := m.anyTree(m.Intn(5))
		if core.Sort(c, 256, 256, 256) == 0 {
			noFold(t, c)
		} else {
			becomes(t, c, plainFold(c))
		}
		p := api.Plan{Rules: api.Rules{Max: 1, Step: 1}, Locals: m.Intn(4), Guards: []api.Guard{{When: c, Then: m.anyTree(2)}}, Final: m.anyTree(2)}
		if !core.Formed(p) {
			noPlan(t, p)
		}
	}
}
