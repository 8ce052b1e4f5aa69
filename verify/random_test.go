package verify

import (
	"math/rand"
	"testing"

	"capstan/api"
)

// maker makes programs by chance, always the same ones from one seed.
type maker struct {
	*rand.Rand
	code []api.Instr
}

func newMaker(seed int64) *maker {
	return &maker{Rand: rand.New(rand.NewSource(seed))}
}

func (m *maker) lay(op int, a int64) int {
	m.code = append(m.code, api.Instr{Op: op, A: a})
	return len(m.code) - 1
}

// here fills the target of the instruction at that place with the next one's number.
func (m *maker) here(at int) {
	m.code[at].A += int64(len(m.code))
}

// one lays code that puts one number on the stack, whatever stands there.
func (m *maker) one(depth int) {
	kind := m.Intn(9)
	if depth == 0 {
		kind = m.Intn(3)
	}
	switch kind {
	case 0:
		m.lay([]int{api.INum, api.IWin, api.ICron}[m.Intn(3)], m.Int63n(3))
	case 1:
		m.lay(api.IRep, 0)
	case 2:
		m.lay(api.IFail, 1+m.Int63n(3))
	case 3:
		m.one(depth - 1)
		m.one(depth - 1)
		m.lay(api.IAdd+m.Intn(11), 0)
	case 4:
		l := m.Int63n(3)
		have := m.lay(api.IHave, l*16384)
		m.one(depth - 1)
		m.lay(api.ISet, l)
		m.here(have)
	case 5:
		failed := m.lay(api.ITry, 0)
		m.one(depth - 1)
		done := m.lay(api.IDone, 0)
		m.here(failed)
		m.one(depth - 1)
		m.here(done)
	default:
		m.one(depth - 1)
		m.same(depth - 1)
	}
}

// same lays code that leaves as much on the stack as stands there, which is one or more.
func (m *maker) same(depth int) {
	kind := m.Intn(7)
	if depth <= 0 {
		kind = m.Intn(2)
	}
	switch kind {
	case 0:
		m.lay(api.INeg+m.Intn(5), 0)
	case 1:
		m.lay(api.IScale, 1)
	case 2:
		m.one(depth - 1)
		m.lay(api.IDrop, 0)
	case 3:
		m.lay(api.ICopy, 0)
		m.same(depth - 1)
		m.lay(api.IDrop, 0)
	case 4:
		m.lay(api.IDrop, 0)
		m.one(depth - 1)
	case 5: // out of a choice at its end, or in its midst
		m.one(depth - 1)
		zero := m.lay(api.IZero, 0)
		m.same(depth - 1)
		if m.Intn(2) == 0 {
			m.here(zero)
			m.same(depth - 1)
			return
		}
		jump := m.lay(api.IJump, 0)
		m.here(zero)
		m.same(depth - 1)
		m.here(jump)
	case 6: // out of two tries from within
		first := m.lay(api.ITry, 0)
		second := m.lay(api.ITry, 0)
		m.same(depth - 1)
		inner := m.lay(api.IDone, 0)
		m.here(second)
		m.same(depth - 1)
		m.here(inner)
		outer := m.lay(api.IDone, 0)
		m.here(first)
		m.here(outer)
		m.same(depth - 1)
	}
}

// action lays code that ends the run, and begins with nothing on the stack.
func (m *maker) action(depth int) {
	if depth > 0 && m.Intn(3) > 0 {
		m.one(depth - 1)
		zero := m.lay(api.IZero, 0)
		m.action(depth - 1)
		m.here(zero)
		m.action(depth - 1)
		return
	}
	if m.Intn(3) == 0 {
		m.lay(api.IHold, 0)
		return
	}
	m.one(depth)
	m.lay(api.ITo+m.Intn(2), 0)
}

// program answers one that is accepted.
func (m *maker) program(depth int) api.Program {
	m.code = nil
	m.action(depth)
	p := full(40, "")
	p.Code = m.code
	return p
}

// spoil changes one thing of p.
func (m *maker) spoil(p *api.Program) {
	at := m.Intn(len(p.Code))
	i := &p.Code[at]
	switch m.Intn(9) {
	case 0:
		i.Op = m.Intn(36) - 1
	case 1:
		i.A = m.Int63n(int64(len(p.Code)) + 3)
	case 2:
		i.A += m.Int63n(5) - 2
	case 3:
		i.A += 16384 * (m.Int63n(5) - 2)
	case 4:
		p.Code[at], p.Code[m.Intn(len(p.Code))] = p.Code[m.Intn(len(p.Code))], *i
	case 5:
		p.Height = m.Intn(4)
	case 6:
		p.Consts = p.Consts[:m.Intn(4)]
	case 7:
		p.Locals = m.Intn(3)
	case 8:
		p.Code = p.Code[:at+1]
	}
}

func TestP23RandomPrograms(t *testing.T) {
	m := newMaker(1)
	ops := map[int]int{}
	for range 10000 {
		p := m.program(1 + m.Intn(5))
		if accepts(t, p); t.Failed() {
			return
		}
		heights, _ := Heights(p)
		for range 5 {
			stroll(t, m.Rand, p, heights)
		}
		for _, i := range p.Code {
			ops[i.Op]++
		}
	}
	for op := api.INum; op <= api.IDrop; op++ {
		if ops[op] < 400 {
			t.Error(op, ops[op])
		}
	}
}

func TestP23RandomProgramsThatAreSpoiled(t *testing.T) {
	m := newMaker(2)
	accepted, refused := 0, 0
	for range 100000 {
		p := m.program(1 + m.Intn(4))
		for range 1 + m.Intn(2) {
			m.spoil(&p)
		}
		if _, fine := answers(t, p); !fine {
			refused++
		} else {
			accepted++
			heights, _ := Heights(p)
			stroll(t, m.Rand, p, heights)
		}
		if t.Failed() {
			return
		}
	}
	if accepted < 10000 || refused < 10000 {
		t.Error(accepted, refused)
	}
}

// All codes of up to four of some instructions: one for each row of the table, with each target.
func TestP23EveryShortCode(t *testing.T) {
	list := instructions("INum 0, IRep, IFail 1, INeg, IScale 1, IAdd, ISet 0, IHold, ITo, ICopy, IDrop, IHave 1:0")
	for _, op := range []int{api.IJump, api.IZero, api.ITry, api.IDone, api.IHave} {
		for target := range int64(4) {
			list = append(list, api.Instr{Op: op, A: target + 1})
		}
	}
	m, accepted := newMaker(3), 0
	var all func(api.Program, int)
	all = func(p api.Program, left int) {
		if _, fine := answers(t, p); fine {
			accepted++
			heights, _ := Heights(p)
			stroll(t, m.Rand, p, heights)
		}
		if left == 0 || t.Failed() {
			return
		}
		for _, i := range list {
			longer := p
			longer.Code = append(p.Code[:len(p.Code):len(p.Code)], i)
			all(longer, left-1)
		}
	}
	all(full(2, ""), 4)
	if accepted < 200 {
		t.Error(accepted)
	}
}

// anything answers a program of any numbers at all, few of them large.
func (m *maker) anything() api.Program {
	any64 := func() int64 { return int64(m.Uint64()) >> m.Intn(64) }
	p := full(m.Intn(9), "")
	for range m.Intn(6) {
		p.Code = append(p.Code, api.Instr{Op: m.Intn(34), A: m.Int63n(6)})
		if m.Intn(4) == 0 {
			p.Code[len(p.Code)-1] = api.Instr{Op: int(any64()), A: any64()}
		}
	}
	switch m.Intn(12) {
	case 0:
		p.Metrics = int(any64())
	case 1:
		p.Locals = int(any64())
	case 2:
		p.Height = int(any64())
	case 3:
		p.Rules = api.Rules{Min: any64(), Max: any64(), Step: any64(), Up: any64(), Down: any64()}
	case 4:
		p.Wins[m.Intn(3)] = api.Win{Metric: int(any64()), Agg: int(any64()), Span: any64(), Rank: any64()}
	case 5:
		p.Crons[m.Intn(3)] = api.Cron{Minute: m.Uint64(), Hour: m.Uint64(), Day: m.Uint64() >> m.Intn(64), Month: m.Uint64(), Week: 1}
	}
	return p
}

func TestAnyProgramsAreAnswered(t *testing.T) {
	m := newMaker(4)
	for range 100000 {
		if answers(t, m.anything()); t.Failed() {
			return
		}
	}
}
