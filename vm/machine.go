package vm

import (
	"slices"

	"capstan/api"
	"capstan/cron"
	"capstan/verify"
	"capstan/window"
)

// Machine is a program with its windows, which take samples as they come. A nil Machine and the zero
// one have no program. It is used by the pointer that New answers: a copy of the struct would share its
// windows.
type Machine struct {
	p    api.Program
	wins []*window.Window // as p.Wins; the clock of none is ahead of the machine's

	clock   int64
	clocked bool // whether there is a clock yet
}

// New answers a machine of p that has taken nothing; or ErrVerify, if p may go wrong.
func New(p api.Program) (*Machine, api.Errno) {
	if _, errno := verify.Check(p); errno != api.OK {
		return nil, errno
	}
	made := &Machine{p: copied(p)}
	for _, terms := range p.Wins {
		w, errno := window.New(terms)
		if errno != api.OK {
			return nil, errno
		}
		made.wins = append(made.wins, w)
	}
	return made, api.OK
}

// copied answers p in memory of its own.
func copied(p api.Program) api.Program {
	p.Consts = slices.Clone(p.Consts)
	p.Wins = slices.Clone(p.Wins)
	p.Crons = slices.Clone(p.Crons)
	p.Code = slices.Clone(p.Code)
	return p
}

// Sample takes a sample of the metric number id; or answers ErrMetric, if there is no such metric, or
// ErrStale, if its time has gone by.
func (m *Machine) Sample(id int, s api.Sample) api.Errno {
	if m.empty() {
		return api.ErrNone
	}
	if id < 0 || id >= m.p.Metrics {
		return api.ErrMetric
	}
	if errno := m.goOn(s.Time); errno != api.OK {
		return errno
	}
	for i, w := range m.wins {
		if m.p.Wins[i].Metric == id {
			w.Put(s)
		}
	}
	return api.OK
}

// Tick answers what the program says at t, where there are rep replicas, and how many steps there were;
// or ErrStale, if t has gone by.
func (m *Machine) Tick(t, rep int64) (api.Raw, int, api.Errno) {
	if m.empty() {
		return api.Raw{}, 0, api.ErrNone
	}
	if errno := m.goOn(t); errno != api.OK {
		return api.Raw{}, 0, errno
	}
	raw, count := ran(m.p, m.env(t, rep))
	return raw, count, api.OK
}

// Clock answers the greatest time of what was taken; or false, if there was nothing.
func (m *Machine) Clock() (int64, bool) {
	if m == nil {
		return 0, false
	}
	return m.clock, m.clocked
}

// empty answers whether there is no program: one that is verified has an instruction.
func (m *Machine) empty() bool {
	return m == nil || len(m.p.Code) == 0
}

// goOn makes t the clock; or answers ErrStale, if t is below it.
func (m *Machine) goOn(t int64) api.Errno {
	if m.clocked && t < m.clock {
		return api.ErrStale
	}
	m.clock, m.clocked = t, true
	return api.OK
}

// env answers what the program is asked about at t, which is the clock.
func (m *Machine) env(t, rep int64) api.Env {
	v := api.Env{Rep: rep}
	for _, w := range m.wins {
		told, _ := w.Read(t)
		v.Wins = append(v.Wins, told)
	}
	for _, c := range m.p.Crons {
		v.Crons = append(v.Crons, cron.Names(c, t))
	}
	return v
}
