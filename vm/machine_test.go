package vm

import (
	"testing"

	"capstan/api"
	"capstan/cron"
)

func machine(t *testing.T, p api.Program) *Machine {
	t.Helper()
	m, errno := New(p)
	if m == nil || errno != api.OK {
		t.Fatalf("New(%s) = %v, %d", brief(p), m, errno)
	}
	clocks(t, m, 0, false)
	return m
}

func clocks(t *testing.T, m *Machine, want int64, there bool) {
	t.Helper()
	if got, ok := m.Clock(); got != want || ok != there {
		t.Errorf("Clock() = %d, %t, wanted %d, %t", got, ok, want, there)
	}
}

// takes wants that a sample of the metric is taken.
func takes(t *testing.T, m *Machine, id int, time, value int64) {
	t.Helper()
	if errno := m.Sample(id, api.Sample{Time: time, Value: value}); errno != api.OK {
		t.Errorf("Sample(%d, %d, %d) = %d", id, time, value, errno)
	}
	clocks(t, m, time, true)
}

// leavesOut wants that error of Sample.
func leavesOut(t *testing.T, m *Machine, id int, time int64, why api.Errno) {
	t.Helper()
	clock, there := m.Clock()
	if errno := m.Sample(id, api.Sample{Time: time, Value: 77000000}); errno != why {
		t.Errorf("Sample(%d, %d) = %d, wanted %d", id, time, errno, why)
	}
	clocks(t, m, clock, there)
}

func ticks(t *testing.T, m *Machine, time, rep int64, want api.Raw, steps int) {
	t.Helper()
	if raw, count, errno := m.Tick(time, rep); raw != want || count != steps || errno != api.OK {
		t.Errorf("Tick(%d, %d) = %v, %d, %d, wanted %v, %d", time, rep, raw, count, errno, want, steps)
	}
	clocks(t, m, time, true)
}

// late wants ErrStale of Tick.
func late(t *testing.T, m *Machine, time int64) {
	t.Helper()
	clock, there := m.Clock()
	if raw, count, errno := m.Tick(time, 5); raw != (api.Raw{}) || count != 0 || errno != api.ErrStale {
		t.Errorf("Tick(%d) = %v, %d, %d", time, raw, count, errno)
	}
	clocks(t, m, clock, there)
}

// watching answers a program that wants the sum of the windows, by these terms.
func watching(metrics int, wins ...api.Win) api.Program {
	p := bare("INum 0", 0)
	p.Metrics, p.Wins = metrics, wins
	for i := range wins {
		p.Code = append(p.Code, api.Instr{Op: api.IWin, A: int64(i)}, api.Instr{Op: api.IAdd})
	}
	p.Code = append(p.Code, instructions("ITo")...)
	return p
}

// last is a window's terms that tell the greatest value of the last ten seconds.
var last = api.Win{Agg: api.AHigh, Span: 10}

func TestP24_2New(t *testing.T) {
	for _, p := range []api.Program{{}, bare(""), bare("ITo"), bare("IHold, IHold"), full("IWin 3, ITo"), full("IRep, IZero 4, ITo")} {
		if m, errno := New(p); m != nil || errno != api.ErrVerify {
			t.Errorf("New(%s) = %v, %d", brief(p), m, errno)
		}
	}
	for _, p := range []api.Program{bare("IHold"), full("IHold"), watching(64, last)} {
		machine(t, p)
	}
	p := full("IHold")
	p.Height = -1
	if m, errno := New(p); m != nil || errno != api.ErrVerify {
		t.Error(m, errno)
	}
}

func TestP24_3SamplesOfMetrics(t *testing.T) {
	m := machine(t, watching(2, last))
	for _, id := range []int{-1, 2, 3, most, least} {
		leavesOut(t, m, id, 5, api.ErrMetric)
	}
	takes(t, m, 0, 5, 1000000)
	takes(t, m, 1, 5, 9000000)
	for _, id := range []int{-1, 2, 3, 64, most, least} {
		leavesOut(t, m, id, 5, api.ErrMetric)
		leavesOut(t, m, id, 6, api.ErrMetric)
		leavesOut(t, m, id, 4, api.ErrMetric) // the metric is asked for first
	}
	leavesOut(t, m, 0, 4, api.ErrStale)
	ticks(t, m, 5, 0, wants(1), 4)
	// Where there is no metric there is no sample.
	leavesOut(t, machine(t, bare("IHold")), 0, 5, api.ErrMetric)
	// Where there is no window the sample is taken all the same.
	m = machine(t, watching(64))
	takes(t, m, 63, 5, 1)
	takes(t, m, 0, 7, 1)
	leavesOut(t, m, 63, 6, api.ErrStale)
	late(t, m, 6)
}

// All windows of a metric take its samples, whatever their place is; those of others don't.
func TestP24_3SamplesOfManyWindows(t *testing.T) {
	low, other := api.Win{Agg: api.ALow, Span: 10}, api.Win{Metric: 1, Agg: api.ASum, Span: 10}
	m := machine(t, watching(3, last, other, last, low, other))
	takes(t, m, 0, 1, 5000000)
	ticks(t, m, 1, 0, wants(15), 12)
	takes(t, m, 1, 1, 100000000)
	ticks(t, m, 1, 0, wants(215), 12)
	takes(t, m, 2, 2, 1000000000)
	ticks(t, m, 2, 0, wants(215), 12)
	takes(t, m, 0, 3, 3000000)
	ticks(t, m, 3, 0, wants(213), 12)
	ticks(t, m, 11, 0, wants(9), 12)
	ticks(t, m, 13, 0, holds(api.NoData), 2)
}

func TestP24_3SampleIsTheClock(t *testing.T) {
	m := machine(t, watching(1, last))
	takes(t, m, 0, 5, 1000000)
	takes(t, m, 0, 5, 2000000)
	leavesOut(t, m, 0, 4, api.ErrStale)
	leavesOut(t, m, 0, least, api.ErrStale)
	late(t, m, 4)
	late(t, m, least)
	ticks(t, m, 5, 0, wants(2), 4)
	takes(t, m, 0, 5, 3000000)
	ticks(t, m, 5, 0, wants(3), 4)
	takes(t, m, 0, 7, 0)
	late(t, m, 6)
	leavesOut(t, m, 0, 6, api.ErrStale)
	ticks(t, m, 7, 0, wants(3), 4)
	ticks(t, m, 15, 0, wants(0), 4)
	ticks(t, m, 17, 0, holds(api.NoData), 2)
}

func TestP24_3TickIsTheClock(t *testing.T) {
	m := machine(t, watching(1, last))
	ticks(t, m, -5, 0, holds(api.NoData), 2)
	late(t, m, -6)
	leavesOut(t, m, 0, -6, api.ErrStale)
	ticks(t, m, -5, 0, holds(api.NoData), 2)
	takes(t, m, 0, -5, 4000000)
	ticks(t, m, -5, 0, wants(4), 4)
	ticks(t, m, 4, 0, wants(4), 4)
	leavesOut(t, m, 0, 3, api.ErrStale)
	takes(t, m, 0, 4, 3000000)
	ticks(t, m, 4, 0, wants(4), 4)
	ticks(t, m, 5, 0, wants(3), 4)
	late(t, m, 4)
	ticks(t, m, 14, 0, holds(api.NoData), 2)
}

// What comes late, or is of no metric, counts nowhere.
func TestP24_3WhatIsLeftOutChangesNothing(t *testing.T) {
	m := machine(t, watching(2, last, api.Win{Metric: 1, Agg: api.ACount, Span: 604800}))
	takes(t, m, 0, 5, 1000000)
	takes(t, m, 1, 6, 1000000)
	for range 3 {
		leavesOut(t, m, 0, 5, api.ErrStale)
		leavesOut(t, m, 1, 5, api.ErrStale)
		leavesOut(t, m, 2, 900, api.ErrMetric)
		leavesOut(t, m, -1, 900, api.ErrMetric)
		late(t, m, 5)
		ticks(t, m, 6, 0, wants(2), 6)
	}
	ticks(t, m, 14, 0, wants(2), 6)
	ticks(t, m, 15, 0, holds(api.NoData), 2)
}

func TestP24_3TimesAtTheEnds(t *testing.T) {
	m := machine(t, watching(1, last))
	takes(t, m, 0, least, 5000000)
	ticks(t, m, least, 0, wants(5), 4)
	ticks(t, m, least+9, 0, wants(5), 4)
	ticks(t, m, least+10, 0, holds(api.NoData), 2)
	takes(t, m, 0, -1, 6000000)
	takes(t, m, 0, 0, 3000000)
	takes(t, m, 0, most, 4000000)
	ticks(t, m, most, 0, wants(4), 4)
	late(t, m, most-1)
	late(t, m, least)
	leavesOut(t, m, 0, most-1, api.ErrStale)
	takes(t, m, 0, most, 7000000)
	ticks(t, m, most, 0, wants(7), 4)
	m = machine(t, watching(1, last))
	ticks(t, m, least, 0, holds(api.NoData), 2)
	m = machine(t, watching(1, last))
	ticks(t, m, 0, 0, holds(api.NoData), 2)
	late(t, m, -1)
}

func TestP24_3Replicas(t *testing.T) {
	m := machine(t, bare("IRep, IBy"))
	for i, rep := range []int64{0, 1, 7, -3, 1000000} {
		ticks(t, m, int64(i), rep, wants(2*rep), 2)
	}
	ticks(t, m, 5, most, wants(most), 2)
	ticks(t, m, 5, least, wants(least), 2)
	ticks(t, m, 5, 3, wants(6), 2)
}

func TestP24_3Schedules(t *testing.T) {
	three, _, _ := cron.Read("0 3 * * *")
	odd, _, _ := cron.Read("1-59/2 * * * *")
	p := bare("ICron 0, IZero 4, INum 0, ITo, ICron 1, IZero 7, IHold, INum 1, ITo", 1000000, 6000000)
	p.Crons = []api.Cron{three, odd}
	m := machine(t, p)
	for _, x := range []struct {
		t     int64
		want  api.Raw
		steps int
	}{
		{0, wants(6), 6}, {60, holds(api.Asked), 5}, {119, holds(api.Asked), 5}, {120, wants(6), 6}, {3*3600 - 1, holds(api.Asked), 5}, {3 * 3600, wants(1), 4}, {3*3600 + 59, wants(1), 4}, {3*3600 + 60, holds(api.Asked), 5}, {27 * 3600, wants(1), 4},
	} {
		ticks(t, m, x.t, 0, x.want, x.steps)
	}
	m = machine(t, p)
	ticks(t, m, -21*3600-1, 0, holds(api.Asked), 5)
	ticks(t, m, -21*3600, 0, wants(1), 4)
}

// A window that tells a reason ends a try, as in a run.
func TestP24_3Reasons(t *testing.T) {
	p := watching(2, last, api.Win{Metric: 1, Agg: api.ASum, Span: 10})
	p.Consts = []int64{7000000}
	p.Code = instructions("ITry 3, IWin 0, IDone 4, INum 0, IWin 1, IAdd, IBy")
	m := machine(t, p)
	ticks(t, m, 1, 5, wants(12), 6)
	takes(t, m, 0, 1, -1000000)
	ticks(t, m, 1, 5, wants(4), 6)
	takes(t, m, 1, 1, most)
	takes(t, m, 1, 1, most)
	ticks(t, m, 1, 5, holds(api.Taint), 4)
	ticks(t, m, 11, 5, wants(12), 6)
}

func TestP24_6NilAndZero(t *testing.T) {
	var none *Machine
	for _, m := range []*Machine{none, {}, new(Machine)} {
		for range 2 {
			clocks(t, m, 0, false)
			for _, id := range []int{0, -1, 1, 99} {
				for _, time := range []int64{0, -1, 5, least, most} {
					leavesOut(t, m, id, time, api.ErrNone)
					if raw, count, errno := m.Tick(time, 3); raw != (api.Raw{}) || count != 0 || errno != api.ErrNone {
						t.Error(raw, count, errno)
					}
				}
			}
		}
	}
}
