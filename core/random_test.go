package core

import (
	"math/rand"
	"reflect"
	"slices"
	"testing"

	"capstan/api"
)

// maker makes trees by chance, always the same ones from one seed.
type maker struct {
	*rand.Rand
	wins, crons, locals int
}

func newMaker(seed int64) *maker {
	return &maker{Rand: rand.New(rand.NewSource(seed)), wins: 4, crons: 3, locals: 5}
}

func (m *maker) among(list ...int) int {
	return list[m.Intn(len(list))]
}

// value answers a number that is small, or near a whole one, or at an end of int64.
func (m *maker) value() int64 {
	switch m.Intn(5) {
	case 0:
		return int64(m.Intn(5)) - 2
	case 1:
		return (int64(m.Intn(9))-4)*api.One + int64(m.Intn(3)) - 1
	case 2:
		return most - int64(m.Intn(3))
	case 3:
		return least + int64(m.Intn(3))
	}
	return m.Int63() - m.Int63()
}

// core answers a formed core of the sort, of at most depth levels below it.
func (m *maker) core(sort, depth int) api.Core {
	switch {
	case sort == 3:
		return m.action(depth)
	case depth == 0 || m.Intn(6) == 0:
		return m.leaf(sort)
	case m.Intn(8) == 0:
		return of(api.OEither, m.core(sort, depth-1), m.core(sort, depth-1))
	case m.Intn(8) == 0:
		return of(api.OIf, m.core(2, depth-1), m.core(sort, depth-1), m.core(sort, depth-1))
	case m.Intn(10) == 0:
		return memo(int64(m.Intn(m.locals)), m.core(sort, depth-1))
	case sort == 2:
		switch m.Intn(3) {
		case 0:
			return of(api.ONot, m.core(2, depth-1))
		case 1:
			return of(m.among(api.OAnd, api.OOr), m.core(2, depth-1), m.core(2, depth-1))
		}
		return of(m.among(api.OLess, api.OLeq, api.OEq, api.OMore, api.OMeq), m.core(1, depth-1), m.core(1, depth-1))
	case m.Intn(3) == 0:
		op := m.among(api.ONeg, api.OAbs, api.OCeil, api.OFloor, api.OScale)
		if op == api.OScale {
			return scaled(max(0, m.value()), max(1, m.value()), m.core(1, depth-1))
		}
		return of(op, m.core(1, depth-1))
	}
	return of(m.among(api.OAdd, api.OSub, api.OMul, api.ODiv, api.OMin, api.OMax), m.core(1, depth-1), m.core(1, depth-1))
}

func (m *maker) leaf(sort int) api.Core {
	if m.Intn(8) == 0 {
		return fail(api.Reason(1+m.Intn(3)), int64(sort))
	}
	if sort == 2 {
		return []api.Core{no, yes, sched(int64(m.Intn(m.crons)))}[m.Intn(3)]
	}
	return []api.Core{num(m.value()), rep, win(int64(m.Intn(m.wins)))}[m.Intn(3)]
}

func (m *maker) action(depth int) api.Core {
	if depth == 0 || m.Intn(6) == 0 {
		return hold
	}
	if m.Intn(2) == 0 {
		return of(m.among(api.OTo, api.OBy), m.core(1, depth-1))
	}
	bounds := make([]int64, m.Intn(4))
	for i := range bounds {
		bounds[i] = m.value()
	}
	slices.Sort(bounds)
	c := of(api.OLadder, m.core(1, depth-1))
	for _, bound := range slices.Compact(bounds) {
		c.Parts = append(c.Parts, num(bound), m.action(depth-1))
	}
	c.Parts = append(c.Parts, m.action(depth-1))
	return c
}

// spoiled answers c with one change somewhere in it, after which it may still be formed.
func (m *maker) spoiled(c api.Core) api.Core {
	if n := len(c.Parts); n > 0 && m.Intn(3) > 0 {
		c.Parts = slices.Clone(c.Parts)
		i := m.Intn(n)
		c.Parts[i] = m.spoiled(c.Parts[i])
		return c
	}
	switch m.Intn(7) {
	case 0:
		c.Op = m.Intn(36) - 1
	case 1:
		c.N = int64(m.Intn(9)) - 2
	case 2:
		c.M = int64(m.Intn(5)) - 1
	case 3:
		c.Parts = append(slices.Clone(c.Parts), m.core(1+m.Intn(3), 1))
	case 4:
		c.Parts = slices.Clone(c.Parts[:max(0, len(c.Parts)-1)])
	case 5:
		c = m.core(1+m.Intn(3), 1)
	case 6:
		c.Parts = slices.Clone(c.Parts)
		m.Shuffle(len(c.Parts), func(i, j int) { c.Parts[i], c.Parts[j] = c.Parts[j], c.Parts[i] })
	}
	return c
}

func (m *maker) env() api.Env {
	v := api.Env{Rep: m.value()}
	if m.Intn(2) == 0 {
		v.Rep = int64(m.Intn(20))
	}
	for range m.wins {
		told := api.Result{N: m.value()}
		if m.Intn(3) == 0 {
			told.Reason = api.Reason(m.Intn(9) - 1)
		}
		v.Wins = append(v.Wins, told)
	}
	for range m.crons {
		v.Crons = append(v.Crons, m.Intn(2) == 0)
	}
	return v
}

// plan answers a plan whose memos of one N have one part, without memos in it.
func (m *maker) plan() api.Plan {
	p := api.Plan{Metrics: []string{"a", "b"}, Rules: api.Rules{Max: 9, Step: 3}, Locals: m.locals}
	for range m.wins {
		p.Wins = append(p.Wins, api.Win{Metric: m.Intn(2), Agg: 1 + m.Intn(5), Span: 60})
	}
	for range m.crons {
		p.Crons = append(p.Crons, daily)
	}
	for range m.Intn(4) {
		p.Guards = append(p.Guards, api.Guard{When: m.core(2, 4), Then: m.core(3, 4)})
	}
	p.Final = m.core(3, 5)
	return p
}

// likened answers c with a leaf that hangs on N alone in each OMemo.
func likened(c api.Core) api.Core {
	if c.Op == api.OMemo && len(c.Parts) == 1 {
		sort := plainSort(c, 99, 99, 99)
		n := c.N - c.N%2 + int64(sort%2) // odd ones are numbers, even ones truths
		return memo(n%4, []api.Core{yes, win(n % 4)}[n%2])
	}
	c.Parts = slices.Clone(c.Parts)
	for i, part := range c.Parts {
		c.Parts[i] = likened(part)
	}
	return c
}

func likenedPlan(p api.Plan) api.Plan {
	p = Copy(p)
	for i, g := range p.Guards {
		p.Guards[i] = api.Guard{When: likened(g.When), Then: likened(g.Then)}
	}
	p.Final = likened(p.Final)
	return p
}

func TestP15_1RandomSorts(t *testing.T) {
	m := newMaker(1)
	formed, unformed := 0, 0
	for range 20000 {
		sort := 1 + m.Intn(3)
		c := m.core(sort, 5)
		if got := Sort(c, m.wins, m.crons, m.locals); got != sort {
			t.Fatalf("Sort(%v) = %d, wanted %d", c, got, sort)
		}
		for range 3 {
			c = m.spoiled(c)
			wins, crons, locals := m.Intn(6)-1, m.Intn(6)-1, m.Intn(7)-1
			got, want := Sort(c, wins, crons, locals), plainSort(c, wins, crons, locals)
			if got != want {
				t.Fatalf("Sort(%v, %d, %d, %d) = %d, wanted %d", c, wins, crons, locals, got, want)
			}
			if Nodes(c) != len(plainNodes(c)) {
				t.Fatalf("Nodes(%v) = %d", c, Nodes(c))
			}
			if got == 0 {
				unformed++
			} else {
				formed++
			}
		}
	}
	if formed < 1000 || unformed < 1000 {
		t.Error(formed, unformed)
	}
}

func TestP15_1RandomSame(t *testing.T) {
	m := newMaker(2)
	for range 20000 {
		a := m.core(1+m.Intn(3), 4)
		b := m.spoiled(a)
		if Same(a, b) != plainSame(a, b) || !Same(a, copyCore(a)) {
			t.Fatalf("Same(%v, %v) = %t", a, b, Same(a, b))
		}
	}
}

func TestP15_2RandomCores(t *testing.T) {
	m := newMaker(3)
	for range 40000 {
		c, v := m.core(1+m.Intn(2), 5), m.env()
		if m.Intn(4) == 0 {
			c = m.spoiled(c)
		}
		want, why := api.Result{}, api.ErrForm
		if sort := plainSort(c, m.wins, m.crons, 256); sort == 1 || sort == 2 {
			want, why = plainEval(c, v), api.OK
		}
		if got, errno := Eval(c, v); got != want || errno != why {
			t.Fatalf("Eval(%v, %v) = %v, %d, wanted %v, %d", c, v, got, errno, want, why)
		}
	}
}

func TestP15_3RandomPlans(t *testing.T) {
	m := newMaker(4)
	formed, unformed := 0, 0
	for range 20000 {
		p := m.plan()
		if m.Intn(2) == 0 {
			p = likenedPlan(p)
		}
		if m.Intn(4) == 0 {
			p.Final = m.spoiled(p.Final)
		}
		v := m.env()
		want, why := api.Raw{}, api.ErrForm
		if plainFormed(p) {
			want, why = plainDecide(p, v), api.OK
			formed++
		} else {
			unformed++
		}
		if Formed(p) != (why == api.OK) {
			t.Fatalf("Formed(%v) = %t", p, Formed(p))
		}
		if got, errno := Decide(p, v); got != want || errno != why {
			t.Fatalf("Decide(%v, %v) = %v, %d, wanted %v, %d", p, v, got, errno, want, why)
		}
		if !reflect.DeepEqual(Copy(p), p) {
			t.Fatalf("Copy(%v) = %v", p, Copy(p))
		}
	}
	if formed < 1000 || unformed < 1000 {
		t.Error(formed, unformed)
	}
}

// anyTree answers a tree of any values.
func (m *maker) anyTree(depth int) api.Core {
	c := api.Core{Op: m.Intn(36) - 1, N: m.value(), M: m.value()}
	if m.Intn(2) == 0 {
		c.N, c.M = int64(m.Intn(3)), int64(m.Intn(3))
	}
	if m.Intn(9) == 0 {
		c.Op = int(m.value())
	}
	if depth > 0 {
		for range m.Intn(5) {
			c.Parts = append(c.Parts, m.anyTree(depth-1))
		}
	}
	return c
}

func TestAnyTreesAreAnswered(t *testing.T) {
	m := newMaker(5)
	for range 5000 {
		a, b, v := m.anyTree(4), m.anyTree(4), m.env()
		wins, crons, locals := int(m.value()), int(m.value()), int(m.value())
		if got, want := Sort(a, wins, crons, locals), plainSort(a, wins, crons, locals); got != want {
			t.Fatalf("Sort(%v, %d, %d, %d) = %d, wanted %d", a, wins, crons, locals, got, want)
		}
		if Same(a, b) != plainSame(a, b) || Nodes(a) != len(plainNodes(a)) {
			t.Fatalf("%v, %v: %t, %d", a, b, Same(a, b), Nodes(a))
		}
		if sort := plainSort(a, m.wins, m.crons, 256); sort == 0 || sort == 3 {
			noEval(t, a, v)
		} else {
			evalIs(t, a, v, plainEval(a, v))
		}
		p := api.Plan{Rules: api.Rules{Max: 1, Step: 1}, Locals: m.Intn(4), Guards: []api.Guard{{When: a, Then: b}}, Final: m.anyTree(2)}
		if m.Intn(2) == 0 {
			p.Guards = nil
		}
		if Formed(p) != plainFormed(p) {
			t.Fatalf("Formed(%v) = %t", p, Formed(p))
		}
		if _, errno := Decide(p, api.Env{}); (errno == api.OK) != plainFormed(p) {
			t.Fatalf("Decide(%v): %d", p, errno)
		}
		if got := Copy(p); !Same(got.Final, p.Final) || Formed(got) != Formed(p) {
			t.Fatalf("Copy(%v) = %v", p, got)
		}
	}
}
