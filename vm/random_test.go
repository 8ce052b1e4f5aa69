package vm

import (
	"math/rand"
	"slices"
	"testing"

	"capstan/api"
	"capstan/codec"
	"capstan/mean"
	"capstan/verify"
)

// maker makes programs by chance, always the same ones from one seed.
type maker struct {
	*rand.Rand
	code []api.Instr
}

func newMaker(seed int64) *maker {
	return &maker{Rand: rand.New(rand.NewSource(seed))}
}

func (m *maker) lay(op int, a int64) int {
	m.code = append(m.code, api.Instr{Op: op, A: a})
	return len(m.code) - 1
}

// here fills the target of the instruction at that place with the next one's number.
func (m *maker) here(at int) {
	m.code[at].A += int64(len(m.code))
}

// one lays code that puts one number on the stack, whatever stands there.
func (m *maker) one(depth int) {
	kind := m.Intn(9)
	if depth <= 0 {
		kind = m.Intn(3)
	}
	switch kind {
	case 0:
		m.lay([]int{api.INum, api.IWin, api.ICron}[m.Intn(3)], m.Int63n(3))
	case 1:
		m.lay(api.IRep, 0)
	case 2:
		m.lay([]int{api.IFail, api.INum}[m.Intn(2)], 1+m.Int63n(3))
	case 3:
		m.one(depth - 1)
		m.one(depth - 1)
		m.lay(api.IAdd+m.Intn(11), 0)
	case 4:
		l := m.Int63n(3)
		have := m.lay(api.IHave, l*16384)
		m.one(depth - 1)
		m.lay(api.ISet, l)
		m.here(have)
	case 5:
		failed := m.lay(api.ITry, 0)
		m.one(depth - 1)
		done := m.lay(api.IDone, 0)
		m.here(failed)
		m.one(depth - 1)
		m.here(done)
	default:
		m.one(depth - 1)
		m.same(depth - 1)
	}
}

// same lays code that leaves as many on the stack as stand there, which is one or more.
func (m *maker) same(depth int) {
	kind := m.Intn(7)
	if depth <= 0 {
		kind = m.Intn(2)
	}
	switch kind {
	case 0:
		m.lay(api.INeg+m.Intn(5), 0)
	case 1:
		m.lay(api.IScale, 1)
	case 2:
		m.one(depth - 1)
		m.lay(api.IDrop, 0)
	case 3:
		m.lay(api.ICopy, 0)
		m.same(depth - 1)
		m.lay(api.IDrop, 0)
	case 4:
		m.lay(api.IDrop, 0)
		m.one(depth - 1)
	case 5: // a choice
		m.one(depth - 1)
		zero := m.lay(api.IZero, 0)
		m.same(depth - 1)
		jump := m.lay(api.IJump, 0)
		m.here(zero)
		m.same(depth - 1)
		m.here(jump)
	case 6: // two tries, from within which what stood there ahead of them may be taken
		first := m.lay(api.ITry, 0)
		second := m.lay(api.ITry, 0)
		m.same(depth - 1)
		inner := m.lay(api.IDone, 0)
		m.here(second)
		m.same(depth - 1)
		m.here(inner)
		outer := m.lay(api.IDone, 0)
		m.here(first)
		m.here(outer)
		m.same(depth - 1)
	}
}

// action lays code that ends the run, and begins with nothing on the stack.
func (m *maker) action(depth int) {
	if depth > 0 && m.Intn(3) > 0 {
		m.one(depth - 1)
		zero := m.lay(api.IZero, 0)
		m.action(depth - 1)
		m.here(zero)
		m.action(depth - 1)
		return
	}
	if m.Intn(6) == 0 {
		m.lay(api.IHold, 0)
		return
	}
	m.one(depth)
	m.lay(api.ITo+m.Intn(2), 0)
}

// program answers one that is accepted, with just the height that it needs.
func (m *maker) program(depth int) api.Program {
	m.code = nil
	m.action(depth)
	p := full("")
	p.Consts, p.Code = []int64{0, 1500000, 1000000, -2500000}, m.code
	if heights, _ := verify.Heights(p); len(heights) > 0 {
		p.Height = slices.Max(heights)
	}
	return p
}

// spoil changes one thing of p.
func (m *maker) spoil(p *api.Program) {
	at := m.Intn(len(p.Code))
	i := &p.Code[at]
	switch m.Intn(7) {
	case 0:
		i.Op = m.Intn(36) - 1
	case 1:
		i.A = m.Int63n(int64(len(p.Code)) + 3)
	case 2:
		i.A += m.Int63n(5) - 2
	case 3:
		i.A += 16384 * (m.Int63n(5) - 2)
	case 4:
		p.Code[at], p.Code[m.Intn(len(p.Code))] = p.Code[m.Intn(len(p.Code))], *i
	case 5:
		p.Height = m.Intn(4)
	case 6:
		p.Locals = m.Intn(3)
	}
}

// env answers one of so many windows and schedules.
func (m *maker) env(wins, crons int) api.Env {
	v := api.Env{Rep: m.Int63n(10)}
	for range wins {
		told := api.Result{N: (m.Int63n(13) - 6) * api.One / 2}
		if m.Intn(4) == 0 {
			told.Reason = api.Reason(1 + m.Intn(6))
		}
		v.Wins = append(v.Wins, told)
	}
	for range crons {
		v.Crons = append(v.Crons, m.Intn(2) == 0)
	}
	return v
}

// endsWell wants of p's run in v what P24.4 says, step by step, and what the plain reading says. It answers what it says.
func endsWell(t *testing.T, p api.Program, v api.Env) api.Raw {
	t.Helper()
	heights, errno := verify.Heights(p)
	if errno != api.OK {
		refuses(t, p, v, api.ErrVerify)
		return api.Raw{}
	}
	r, list := newRun(p, v), steps()
	count := 0
	for ; !r.over; count++ {
		if r.at >= len(p.Code) || len(r.stack) != heights[r.at] || len(r.stack) > p.Height || count >= len(p.Code) {
			t.Fatalf("%s in %s: step %d, at %d, %d on the stack", brief(p), brief(v), count, r.at, len(r.stack))
		}
		r.next(list)
	}
	runs(t, p, v, r.says, count)
	return r.says
}

func TestP24_4RandomPrograms(t *testing.T) {
	m := newMaker(1)
	ops, reasons := map[int]int{}, map[api.Reason]int{}
	for range 20000 {
		p := m.program(1 + m.Intn(5))
		for range 5 {
			reasons[endsWell(t, p, m.env(3, 3)).Reason]++
		}
		if t.Failed() {
			return
		}
		for _, i := range p.Code {
			ops[i.Op]++
		}
	}
	for op := api.INum; op <= api.IDrop; op++ {
		if ops[op] < 1000 {
			t.Error(op, ops[op])
		}
	}
	for reason := api.Fine; reason <= api.CoolDown; reason++ {
		if reasons[reason] < 500 {
			t.Error(reasons)
		}
	}
}

func TestP24_4RandomProgramsThatAreSpoiled(t *testing.T) {
	m := newMaker(2)
	accepted := 0
	for range 50000 {
		p := m.program(1 + m.Intn(4))
		for range 1 + m.Intn(2) {
			m.spoil(&p)
		}
		if _, errno := verify.Check(p); errno == api.OK {
			accepted++
		}
		for range 2 {
			endsWell(t, p, m.env(3, 3))
		}
		if t.Failed() {
			return
		}
	}
	if accepted < 5000 {
		t.Error(accepted)
	}
}

// All codes of up to four of some instructions, with each target.
func TestP24_4EveryShortCode(t *testing.T) {
	list := instructions("INum 1, IWin 1, IFail 1, INot, IDiv, ISet 0, IHold, IBy, ICopy, IDrop")
	for _, op := range []int{api.IJump, api.IZero, api.ITry, api.IDone, api.IHave} {
		for target := range int64(4) {
			list = append(list, api.Instr{Op: op, A: target + 1})
		}
	}
	m, accepted := newMaker(3), 0
	var all func(api.Program, int)
	all = func(p api.Program, left int) {
		if _, errno := verify.Check(p); errno == api.OK {
			accepted++
			for range 3 {
				endsWell(t, p, m.env(3, 3))
			}
		}
		if left == 0 || t.Failed() {
			return
		}
		for _, i := range list {
			longer := p
			longer.Code = append(p.Code[:len(p.Code):len(p.Code)], i)
			all(longer, left-1)
		}
	}
	p := full("")
	p.Consts[1] = 0
	all(p, 4)
	if accepted < 150 {
		t.Error(accepted)
	}
}

// Of any bytes: they are refused, or the program ends well.
func TestP24_4AnyBytes(t *testing.T) {
	m := newMaker(4)
	ran := 0
	for range 50000 {
		bytes, errno := codec.Encode(m.program(1 + m.Intn(4)))
		if errno != api.OK {
			t.Fatal(errno)
		}
		for range m.Intn(3) {
			bytes[m.Intn(len(bytes))] += byte(1 + m.Intn(255))
		}
		p, errno := codec.Decode(bytes)
		if errno != api.OK {
			continue
		}
		if _, errno := verify.Check(p); errno == api.OK {
			ran++
		}
		if endsWell(t, p, m.env(len(p.Wins), len(p.Crons))); t.Failed() {
			return
		}
	}
	if ran < 10000 {
		t.Error(ran)
	}
}

// of answers a plan that sees what p does.
func of(p api.Program) api.Plan {
	return api.Plan{Metrics: make([]string, p.Metrics), Rules: p.Rules, Wins: p.Wins, Crons: p.Crons, Final: api.Core{Op: api.OHold}}
}

// event answers one behind that time, or a little ahead of it, of a metric that there may be.
func (m *maker) event(clock int64) api.Event {
	e := api.Event{Kind: api.ESample, Id: m.Intn(4) - 1, Time: clock + m.Int63n(9) - 2, Value: m.Int63n(9)*api.One/2 - 1000000}
	if m.Intn(3) == 0 {
		e = api.Event{Kind: api.ETick, Time: e.Time}
	}
	return e
}

// A machine holds what a look at all that it has taken tells.
func TestP24_3RandomHistories(t *testing.T) {
	m := newMaker(5)
	answers, reasons := map[api.Errno]int{}, map[api.Reason]int{}
	for range 400 {
		p := m.program(1 + m.Intn(5))
		p.Wins = []api.Win{{Agg: api.AAvg, Span: 1 + m.Int63n(9)}, {Metric: 1, Agg: api.ARank, Span: 1 + m.Int63n(30), Rank: 50000000}, {Metric: m.Intn(2), Agg: api.ALow, Span: 3}}
		p.Crons[0].Minute, p.Crons[0].Hour = 1<<60-1, 1<<24-2
		made := machine(t, p)
		history, clock := []api.Event{}, m.Int63n(9000)
		for range 60 {
			e := m.event(clock)
			late := len(history) > 0 && e.Time < clock
			if e.Kind == api.ESample {
				why := made.Sample(e.Id, api.Sample{Time: e.Time, Value: e.Value})
				answers[why]++
				if want := sampleError(p, e, late); why != want {
					t.Fatalf("Sample %v at %d: %d, wanted %d", e, clock, why, want)
				}
			} else {
				want, count, errno := api.Raw{}, 0, api.ErrStale
				rep := m.Int63n(9)
				if !late {
					v, _ := mean.Env(of(p), history, e.Time, rep)
					want, count = plainRun(t, p, v)
					errno = api.OK
				}
				if raw, done, why := made.Tick(e.Time, rep); raw != want || done != count || why != errno {
					t.Fatalf("Tick %v at %d: %v, %d, %d, wanted %v, %d, %d", e, clock, raw, done, why, want, count, errno)
				}
				answers[errno]++
				reasons[want.Reason]++
			}
			if taken := mean.Taken(of(p), append(history, e)); len(taken) > len(history) {
				history, clock = taken, e.Time
			}
			clocks(t, made, clock*int64(min(1, len(history))), len(history) > 0)
		}
		if t.Failed() {
			return
		}
	}
	if answers[api.OK] < 4000 || answers[api.ErrStale] < 1000 || answers[api.ErrMetric] < 1000 || reasons[api.NoData] < 500 || reasons[api.Fine] < 500 {
		t.Error(answers, reasons)
	}
}

func sampleError(p api.Program, e api.Event, late bool) api.Errno {
	switch {
	case e.Id < 0 || e.Id >= p.Metrics:
		return api.ErrMetric
	case late:
		return api.ErrStale
	}
	return api.OK
}
