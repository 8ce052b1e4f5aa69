package code

import (
	"math/rand"
	"slices"
	"testing"

	"capstan/api"
	"capstan/core"
	"capstan/fold"
	"capstan/prune"
	"capstan/share"
)

// maker makes plans by chance, always the same ones from one seed.
type maker struct {
	*rand.Rand
	wins, crons     int
	numbers, truths []api.Core // OMemos
}

func newMaker(seed int64) *maker {
	return &maker{Rand: rand.New(rand.NewSource(seed))}
}

func (m *maker) among(list ...int) int {
	return list[m.Intn(len(list))]
}

func (m *maker) number(depth int) api.Core {
	switch n := m.Intn(14); {
	case n < 2 && len(m.numbers) > 0:
		return m.numbers[m.Intn(len(m.numbers))]
	case n < 5 && m.wins > 0:
		return win(m.Int63n(int64(m.wins)))
	case depth == 0 || n < 6:
		return num((m.Int63n(7) - 3) * api.One / 2)
	case n < 7:
		return rep
	case n < 8:
		return of(api.OEither, m.number(depth-1), m.number(depth-1))
	case n < 9:
		return of(api.OIf, m.truth(depth-1), m.number(depth-1), m.number(depth-1))
	case n < 10:
		return fail(1+m.Int63n(3), 1)
	case n < 11:
		return scaled(m.Int63n(4)*api.One/2, 1+m.Int63n(4), m.number(depth-1))
	case n < 12:
		return of(m.among(api.ONeg, api.OAbs, api.OCeil, api.OFloor), m.number(depth-1))
	}
	return of(m.among(api.OAdd, api.OSub, api.OMul, api.ODiv, api.OMin, api.OMax), m.number(depth-1), m.number(depth-1))
}

func (m *maker) truth(depth int) api.Core {
	switch n := m.Intn(12); {
	case n < 2 && len(m.truths) > 0:
		return m.truths[m.Intn(len(m.truths))]
	case n < 4 && m.crons > 0:
		return sched(m.Int63n(int64(m.crons)))
	case depth == 0 || n < 5:
		return api.Core{Op: api.OBool, N: m.Int63n(2)}
	case n < 6:
		return of(api.ONot, m.truth(depth-1))
	case n < 8:
		return of(m.among(api.OAnd, api.OOr, api.OEither), m.truth(depth-1), m.truth(depth-1))
	case n < 9:
		return of(api.OIf, m.truth(depth-1), m.truth(depth-1), m.truth(depth-1))
	case n < 10 && m.Intn(3) == 0:
		return fail(1+m.Int63n(3), 2)
	}
	return of(m.among(api.OLess, api.OLeq, api.OEq, api.OMore, api.OMeq), m.number(depth-1), m.number(depth-1))
}

func (m *maker) action(depth int) api.Core {
	switch n := m.Intn(6); {
	case depth == 0 || n == 0:
		return hold
	case n < 4:
		return of(m.among(api.OTo, api.OBy), m.number(depth-1))
	}
	c := ladder(m.number(depth - 1))
	bound := m.Int63n(9) - 4
	for range m.Intn(4) {
		c.Parts = append(c.Parts, num(bound*api.One/2), m.action(depth-1))
		bound += 1 + m.Int63n(3)
	}
	c.Parts = append(c.Parts, m.action(depth-1))
	return c
}

// lists gives p windows and schedules.
func (m *maker) lists(p *api.Plan) {
	m.wins, m.crons = m.Intn(5), m.Intn(4)
	for range m.wins {
		p.Wins = append(p.Wins, api.Win{Metric: m.Intn(2), Agg: m.among(api.ASum, api.ALow), Span: 10 + m.Int63n(5)*50})
	}
	for range m.crons {
		c := daily
		c.Minute = 1 << m.Intn(60)
		p.Crons = append(p.Crons, c)
	}
}

// plan answers a plan that is formed, with locals that may be asked within others.
func (m *maker) plan() api.Plan {
	for {
		p := api.Plan{Metrics: []string{"a", "b"}, Rules: api.Rules{Max: 9, Step: 3}}
		m.numbers, m.truths = nil, nil
		m.lists(&p)
		p.Locals = m.Intn(7)
		for i := range int64(p.Locals) {
			if m.Intn(2) == 0 {
				m.numbers = append(m.numbers, memo(i, m.number(2)))
			} else {
				m.truths = append(m.truths, memo(i, m.truth(2)))
			}
		}
		for range m.Intn(6) {
			p.Guards = append(p.Guards, guard(m.truth(3), m.action(m.Intn(4))))
		}
		p.Final = m.action(m.Intn(6))
		if total(p) <= api.MaxCore {
			return p
		}
	}
}

func total(p api.Plan) int {
	sum := core.Nodes(p.Final)
	for _, g := range p.Guards {
		sum += core.Nodes(g.When) + core.Nodes(g.Then)
	}
	return sum
}

// env answers an Env of the plan.
func (m *maker) env(p api.Plan) api.Env {
	v := api.Env{Rep: m.Int63n(10)}
	for range p.Wins {
		told := api.Result{N: (m.Int63n(13) - 6) * api.One / 2}
		if m.Intn(5) == 0 {
			told = api.Result{Reason: api.Reason(1 + m.Intn(3))}
		}
		v.Wins = append(v.Wins, told)
	}
	for range p.Crons {
		v.Crons = append(v.Crons, m.Intn(2) == 0)
	}
	return v
}

// runs wants that the program of p says what p says, in some Envs; it counts what was said.
func (m *maker) runs(t *testing.T, p api.Plan, reasons map[api.Reason]int) {
	t.Helper()
	made, errno := Emit(p)
	if errno != api.OK {
		t.Fatalf("Emit(%s): %d", brief(p), errno)
	}
	for range 6 {
		v := m.env(p)
		want, _ := core.Decide(p, v)
		if got := ran(made, v); got != want {
			t.Fatalf("%s says %v in %v, wanted %v as %s", told(made.Code), got, v, want, brief(p))
		}
		reasons[want.Reason]++
	}
}

func TestP21RandomPlans(t *testing.T) {
	m := newMaker(1)
	reasons := map[api.Reason]int{}
	ops := map[int]int{}
	for range 20000 {
		p := m.plan()
		if sound(t, p); t.Failed() {
			return
		}
		m.runs(t, p, reasons)
		made, _ := Emit(p)
		for _, i := range made.Code {
			ops[i.Op]++
		}
	}
	for reason := api.Fine; reason <= api.Asked; reason++ {
		if reasons[reason] < 500 {
			t.Error(reasons)
		}
	}
	for op := api.INum; op <= api.IDrop; op++ {
		if ops[op] < 500 {
			t.Error(ops)
		}
	}
}

// Behind whatever passes, in whatever order: the program says what the plan says that it is made of.
func TestP21RandomPlansOfPasses(t *testing.T) {
	m := newMaker(2)
	reasons := map[api.Reason]int{}
	passes := []func(api.Plan) (api.Plan, api.Errno){fold.Plan, prune.Plan, share.Plan}
	for range 1500 {
		p := m.plan()
		for _, order := range [][]int{{0}, {1}, {2}, {0, 1}, {0, 2}, {1, 2}, {2, 1}, {0, 1, 2}, {2, 0, 1}} {
			made := p
			for _, i := range order {
				if next, errno := passes[i](made); errno == api.OK {
					made = next
				}
			}
			if sound(t, made); t.Failed() {
				return
			}
			m.runs(t, made, reasons)
		}
	}
}

// spoiled answers c with one change somewhere in it, after which it may still be formed.
func (m *maker) spoiled(c api.Core) api.Core {
	if n := len(c.Parts); n > 0 && m.Intn(3) > 0 {
		c.Parts = slices.Clone(c.Parts)
		i := m.Intn(n)
		c.Parts[i] = m.spoiled(c.Parts[i])
		return c
	}
	switch m.Intn(6) {
	case 0:
		c.Op = m.Intn(36) - 1
	case 1:
		c.N = m.Int63n(9) - 2
	case 2:
		c.M = m.Int63n(5) - 1
	case 3:
		c.Parts = append(slices.Clone(c.Parts), m.number(1))
	case 4:
		c.Parts = slices.Clone(c.Parts[:max(0, len(c.Parts)-1)])
	case 5:
		c = memo(m.Int63n(2), c)
	}
	return c
}

// answered wants what the chapter says of p; it answers that error.
func answered(t *testing.T, p api.Plan) api.Errno {
	t.Helper()
	if !core.Formed(p) {
		noProgram(t, p, api.ErrForm)
		return api.ErrForm
	}
	sound(t, p)
	return api.OK
}

func TestP21_1RandomPlansThatAreSpoiled(t *testing.T) {
	m := newMaker(3)
	answers := map[api.Errno]int{}
	for range 20000 {
		p := m.plan()
		if n := len(p.Guards); n > 0 && m.Intn(2) == 0 {
			i := m.Intn(n)
			p.Guards[i] = guard(m.spoiled(p.Guards[i].When), m.spoiled(p.Guards[i].Then))
		} else {
			p.Final = m.spoiled(p.Final)
		}
		if answers[answered(t, p)]++; t.Failed() {
			return
		}
	}
	if answers[api.OK] < 1000 || answers[api.ErrForm] < 1000 {
		t.Error(answers)
	}
}

// anyTree answers a tree of any values.
func (m *maker) anyTree(depth int) api.Core {
	c := api.Core{Op: m.Intn(36) - 1, N: m.Int63n(4) - 1, M: m.Int63n(3) - 1}
	if m.Intn(9) == 0 {
		c.Op, c.N, c.M = int(m.Uint64()), int64(m.Uint64()), int64(m.Uint64())
	}
	if depth > 0 {
		for range m.Intn(5) {
			c.Parts = append(c.Parts, m.anyTree(depth-1))
		}
	}
	return c
}

func TestAnyPlansAreAnswered(t *testing.T) {
	m := newMaker(4)
	for range 20000 {
		p := simple(m.anyTree(m.Intn(4)))
		for range m.Intn(3) {
			p.Guards = append(p.Guards, guard(m.anyTree(m.Intn(4)), m.anyTree(m.Intn(4))))
		}
		p.Locals = m.Intn(5) - 1
		answered(t, p)
	}
}
