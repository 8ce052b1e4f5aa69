package verify

import (
	"slices"
	"testing"

	"capstan/api"
)

// heads wants of a program with one number in its head set to each of them what the chapter says: that it is accepted for those
// from first to last, and for no others.
func heads(t *testing.T, set func(*api.Program, int64), first, last int64) {
	t.Helper()
	for _, n := range []int64{first, first + 1, last - 1, last} {
		p := full(1, "IRep, ITo")
		set(&p, n)
		accepts(t, p)
	}
	for _, n := range []int64{first - 1, last + 1, least, most, 1 << 32, -1 << 32, first + 1<<32, last + 1<<32} {
		p := full(1, "IRep, ITo")
		set(&p, n)
		refuses(t, p, 0)
	}
}

func TestP23_1HeadNumbers(t *testing.T) {
	heads(t, func(p *api.Program, n int64) { p.Metrics = int(n) }, 2, 64)
	heads(t, func(p *api.Program, n int64) { p.Metrics, p.Wins = int(n), nil }, 0, 64)
	heads(t, func(p *api.Program, n int64) { p.Locals = int(n) }, 0, 256)
	heads(t, func(p *api.Program, n int64) { p.Height = int(n) }, 1, 4096)
	heads(t, func(p *api.Program, n int64) { p.Height, p.Code = int(n), instructions("IHold") }, 0, 4096)
}

func TestP23_1HeadRules(t *testing.T) {
	heads(t, func(p *api.Program, n int64) { p.Rules.Min, p.Rules.Max = n, 1000000 }, 0, 1000000)
	heads(t, func(p *api.Program, n int64) { p.Rules.Min, p.Rules.Max = n, 7 }, 0, 7)
	heads(t, func(p *api.Program, n int64) { p.Rules.Max = n }, 1, 1000000)
	heads(t, func(p *api.Program, n int64) { p.Rules.Min, p.Rules.Max = 7, n }, 7, 1000000)
	heads(t, func(p *api.Program, n int64) { p.Rules.Step = n }, 1, 1000000)
	heads(t, func(p *api.Program, n int64) { p.Rules.Up = n }, 0, 604800)
	heads(t, func(p *api.Program, n int64) { p.Rules.Down = n }, 0, 604800)
}

// In whichever place of the list the window stands.
func TestP23_1HeadWindows(t *testing.T) {
	for i := range 3 {
		heads(t, func(p *api.Program, n int64) { p.Wins[i].Metric = int(n) }, 0, 1)
		heads(t, func(p *api.Program, n int64) { p.Wins[i] = api.Win{Agg: int(n), Span: 1} }, 1, 5)
		heads(t, func(p *api.Program, n int64) { p.Wins[i].Span = n }, 1, 604800)
		heads(t, func(p *api.Program, n int64) { p.Wins[i] = api.Win{Agg: api.ARank, Span: 1, Rank: n} }, 1, 100000000)
		p := full(1, "IHold")
		p.Wins[i] = api.Win{Agg: api.ASum, Span: 1, Rank: 1}
		refuses(t, p, 0)
	}
	p := full(1, "IHold")
	for _, n := range []int{0, 1} {
		p.Metrics = n
		refuses(t, p, 0)
	}
	p.Wins = []api.Win{{Metric: 63, Agg: api.ALow, Span: 1}}
	p.Metrics = 63
	refuses(t, p, 0)
	p.Metrics = 64
	accepts(t, p)
	p.Metrics, p.Wins[0].Metric = 65, 64
	refuses(t, p, 0)
}

func TestP23_1HeadSchedules(t *testing.T) {
	for i := range 3 {
		for field := range 5 {
			for _, set := range []uint64{0, 1 << 63, 1 << 60, 1<<60 - 1, 1 << 24, 1<<24 - 1, 1 << 32, 1 << 31, 1 << 13, 1 << 12, 1 << 7, 1 << 6, 2, 1, 3} {
				p := full(1, "IHold")
				c := &p.Crons[i]
				*[]*uint64{&c.Minute, &c.Hour, &c.Day, &c.Month, &c.Week}[field] = set
				answers(t, p)
			}
		}
		p := full(1, "IHold")
		p.Crons[i] = api.Cron{}
		refuses(t, p, 0)
		p.Crons[i] = daily
		p.Crons[i].Week = 1 << 7
		refuses(t, p, 0)
		p.Crons[i].Week = 1 << 6
		accepts(t, p)
	}
}

func TestP23_1HeadLists(t *testing.T) {
	for _, x := range []struct {
		fill func(*api.Program, int)
		most int
	}{
		{func(p *api.Program, n int) { p.Consts = make([]int64, n) }, 16384},
		{func(p *api.Program, n int) { p.Wins = slices.Repeat(p.Wins[:1], n) }, 256},
		{func(p *api.Program, n int) { p.Crons = slices.Repeat(p.Crons[:1], n) }, 256},
	} {
		for _, n := range []int{0, 1, x.most - 1, x.most} {
			p := full(1, "IHold")
			x.fill(&p, n)
			accepts(t, p)
		}
		for _, n := range []int{x.most + 1, 2 * x.most, 1 << 16, 1<<16 + 1} {
			p := full(1, "IHold")
			x.fill(&p, n)
			refuses(t, p, 0)
		}
	}
}

func TestP23_1HeadCode(t *testing.T) {
	for _, n := range []int{1, 2, 3, 16383, 16384} {
		p := bare(1, "IHold")
		for at := range n - 1 {
			p.Code = slices.Insert(p.Code, at, api.Instr{Op: api.IJump, A: int64(at) + 1})
		}
		high(t, p, make([]int, n)...)
	}
	for _, n := range []int{16385, 16386, 32768, 1<<16 + 1} {
		p := bare(1, "IRep")
		p.Code = append(slices.Repeat(p.Code, n-1), instructions("IHold")...)
		refuses(t, p, 0)
	}
	refuses(t, bare(1, ""), 0)
	p := bare(1, "IHold")
	p.Code = []api.Instr{}
	refuses(t, p, 0)
	refuses(t, api.Program{}, 0)
	refuses(t, api.Program{Code: instructions("IHold")}, 0)
}

// What isn't right in the head is asked for in the whole of it: one of them is enough.
func TestP23_1HeadAlone(t *testing.T) {
	for _, p := range []api.Program{
		{Rules: api.Rules{Max: 1, Step: 1}, Code: instructions("IHold")},
		{Rules: api.Rules{Min: 1000000, Max: 1000000, Step: 1000000, Up: 604800, Down: 604800}, Metrics: 64, Locals: 256, Height: 4096, Code: instructions("IHold")},
	} {
		accepts(t, p)
	}
}
