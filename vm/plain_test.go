package vm

import (
	"testing"

	"capstan/api"
	"capstan/core"
	"capstan/fix"
)

// The chapter once more, as it stands there, with nothing of the program's own. Its stack is a chain that is never changed:
// what a try goes back to is what it was.

type link struct {
	n     int64
	below *link
	high  int
}

type plain struct {
	t     *testing.T
	p     api.Program
	v     api.Env
	stack *link
	set   map[int64]int64
	tries []plainTry
	at    int64
	over  bool
	says  api.Raw
}

type plainTry struct {
	target int64
	stack  *link
}

// plainRun answers how p's run in v ends, and how many steps there were. It wants on the way what P24.4 says.
func plainRun(t *testing.T, p api.Program, v api.Env) (api.Raw, int) {
	t.Helper()
	m := &plain{t: t, p: p, v: v, set: map[int64]int64{}}
	count := 0
	for ; !m.over; count++ {
		if m.at < 0 || m.at >= int64(len(p.Code)) || count >= len(p.Code) {
			t.Fatalf("%s is at %d in the step %d", brief(p), m.at, count)
		}
		i := p.Code[m.at]
		m.at++
		m.step(i.Op, i.A)
		if m.stack != nil && m.stack.high > p.Height {
			t.Fatalf("%s is %d high at %d", brief(p), m.stack.high, m.at)
		}
	}
	return m.says, count
}

func (m *plain) put(n int64) {
	high := 1
	if m.stack != nil {
		high += m.stack.high
	}
	m.stack = &link{n, m.stack, high}
}

func (m *plain) take() int64 {
	if m.stack == nil {
		m.t.Fatalf("%s takes at %d what isn't there", brief(m.p), m.at-1)
	}
	n := m.stack.n
	m.stack = m.stack.below
	return n
}

func (m *plain) fail(why api.Reason) {
	if len(m.tries) == 0 {
		m.over, m.says = true, api.Raw{Hold: true, Reason: why}
		return
	}
	m.at, m.stack = m.shut()
}

func (m *plain) shut() (int64, *link) {
	if len(m.tries) == 0 {
		m.t.Fatalf("%s shuts at %d what isn't open", brief(m.p), m.at-1)
	}
	last := m.tries[len(m.tries)-1]
	m.tries = m.tries[:len(m.tries)-1]
	return last.target, last.stack
}

// told puts there what the operation of a core comes to, of parts that are numbers.
func (m *plain) told(op int, n, d int64, of ...int64) {
	c := api.Core{Op: op, N: n, M: d}
	for _, part := range of {
		c.Parts = append(c.Parts, api.Core{Op: api.ONum, N: part})
	}
	told, errno := core.Eval(c, api.Env{})
	if errno != api.OK {
		m.t.Fatal(op, n, d, of, errno)
	}
	m.result(told)
}

func (m *plain) result(told api.Result) {
	if told.Reason != 0 {
		m.fail(told.Reason)
		return
	}
	m.put(told.N)
}

func (m *plain) step(op int, a int64) {
	switch op {
	case 1:
		m.put(m.p.Consts[a])
	case 2:
		m.put(fix.Whole(m.v.Rep))
	case 3:
		m.result(m.v.Wins[a])
	case 4:
		m.put(map[bool]int64{true: 1}[m.v.Crons[a]])
	case 5:
		m.fail(api.Reason(a))
	case 6, 8, 9, 10:
		m.told(map[int]int{6: api.ONeg, 8: api.OAbs, 9: api.OCeil, 10: api.OFloor}[op], 0, 0, m.take())
	case 7:
		m.put(map[int64]int64{0: 1}[m.take()])
	case 11:
		m.told(api.OScale, m.p.Consts[a], m.p.Consts[a+1], m.take())
	case 23:
		m.at = a
	case 24:
		if m.take() == 0 {
			m.at = a
		}
	case 25:
		m.tries = append(m.tries, plainTry{a, m.stack})
	case 26:
		m.shut()
		m.at = a
	case 27:
		if n, there := m.set[a/16384]; there {
			m.put(n)
			m.at = a % 16384
		}
	case 28:
		m.set[a] = m.take()
		m.put(m.set[a])
	case 32:
		n := m.take()
		m.put(n)
		m.put(n)
	case 33:
		m.take()
	case 29, 30, 31:
		m.last(op)
	default:
		second, first := m.take(), m.take()
		m.told([]int{api.OAdd, api.OSub, api.OMul, api.ODiv, api.OLess, api.OLeq, api.OEq, api.OMore, api.OMeq, api.OMin, api.OMax}[op-12], 0, 0, first, second)
	}
}

// last ends the run.
func (m *plain) last(op int) {
	m.over = true
	switch op {
	case 29:
		m.says = api.Raw{Hold: true, Reason: 4}
	case 30:
		m.says = api.Raw{Want: fix.Count(m.take())}
	case 31:
		m.says = api.Raw{Want: fix.Add(m.v.Rep, fix.Count(m.take()))}
	}
	if m.stack != nil || len(m.tries) > 0 {
		m.t.Fatalf("%s ends at %d with more on the stack, or a try open", brief(m.p), m.at-1)
	}
}
