package codec

import (
	"math"
	"testing"

	"capstan/api"
)

func TestP22_1TheExample(t *testing.T) {
	want := unhex("63707331" + zeros(12) + zeros(8) + "0000000000000001 0000000000000001" + zeros(16) + zeros(12) + "00000001 1d" + zeros(8))
	if len(want) != 81 {
		t.Fatal(len(want))
	}
	encodes(t, small(), want)
}

func TestP22_1Full(t *testing.T) {
	encodes(t, full(), fullBytes())
}

// Whether a program makes sense isn't asked.
func TestP22_1SenseDoesNotMatter(t *testing.T) {
	encodes(t, api.Program{}, unhex("63707331"+zeros(68)))
	encodes(t, one(), unhex("63707331"+zeros(52)+"00000001"+zeros(8)+"00000001"+zeros(24)+"00000001"+zeros(40)+"00000001"+zeros(9)))
	p := api.Program{Rules: api.Rules{Min: 9, Max: -1, Up: -1, Down: 604801}, Code: []api.Instr{{Op: api.IJump, A: -7}, {Op: api.IHold, A: 1}}}
	rules := "0000000000000009 ffffffffffffffff" + zeros(8) + "ffffffffffffffff 0000000000093a81"
	encodes(t, p, unhex("63707331"+zeros(12)+rules+zeros(12)+"00000002 17 fffffffffffffff9 1d 0000000000000001"))
}

// fourField is a number in four bytes: how it is set in what one answers, and where its bytes stand.
type fourField struct {
	at  int
	set func(p *api.Program, n int)
}

func fourFields() []fourField {
	return []fourField{
		{4, func(p *api.Program, n int) { p.Metrics = n }},
		{8, func(p *api.Program, n int) { p.Locals = n }},
		{12, func(p *api.Program, n int) { p.Height = n }},
		{72, func(p *api.Program, n int) { p.Wins[0].Metric = n }},
		{76, func(p *api.Program, n int) { p.Wins[0].Agg = n }},
	}
}

// eightField is the like for a number in eight bytes.
type eightField struct {
	at  int
	set func(p *api.Program, n int64)
}

func eightFields() []eightField {
	return []eightField{
		{16, func(p *api.Program, n int64) { p.Rules.Min = n }},
		{24, func(p *api.Program, n int64) { p.Rules.Max = n }},
		{32, func(p *api.Program, n int64) { p.Rules.Step = n }},
		{40, func(p *api.Program, n int64) { p.Rules.Up = n }},
		{48, func(p *api.Program, n int64) { p.Rules.Down = n }},
		{60, func(p *api.Program, n int64) { p.Consts[0] = n }},
		{80, func(p *api.Program, n int64) { p.Wins[0].Span = n }},
		{88, func(p *api.Program, n int64) { p.Wins[0].Rank = n }},
		{100, func(p *api.Program, n int64) { p.Crons[0].Minute = uint64(n) }},
		{108, func(p *api.Program, n int64) { p.Crons[0].Hour = uint64(n) }},
		{116, func(p *api.Program, n int64) { p.Crons[0].Day = uint64(n) }},
		{124, func(p *api.Program, n int64) { p.Crons[0].Month = uint64(n) }},
		{132, func(p *api.Program, n int64) { p.Crons[0].Week = uint64(n) }},
		{145, func(p *api.Program, n int64) { p.Code[0].A = n }},
	}
}

// opAt is where the Op stands in the bytes of what one answers.
const opAt = 144

func TestP22_1NumbersOfFourBytes(t *testing.T) {
	base, _ := Encode(one())
	for _, f := range fourFields() {
		for _, x := range []struct {
			n     int
			bytes string
		}{
			{1, "00000001"}, {255, "000000ff"}, {256, "00000100"}, {65535, "0000ffff"}, {1 << 16, "00010000"}, {1 << 24, "01000000"},
			{0x12345678, "12345678"}, {0x7ffffffe, "7ffffffe"}, {math.MaxInt32, "7fffffff"},
		} {
			p := one()
			f.set(&p, x.n)
			b := changed(base, f.at, unhex(x.bytes)...)
			encodes(t, p, b)
			decodes(t, b, p)
		}
		for _, n := range []int{-1, -2, -256, math.MinInt32, 1 << 31, 1<<31 + 1, 1 << 32, 1<<32 + 1, 1 << 40, math.MinInt, math.MinInt + 1, math.MaxInt} {
			p := one()
			f.set(&p, n)
			noBytes(t, p)
		}
	}
}

func TestP22_1NumbersOfEightBytes(t *testing.T) {
	base, _ := Encode(one())
	for _, f := range eightFields() {
		for _, x := range []struct {
			n     int64
			bytes string
		}{
			{1, "0000000000000001"}, {-1, "ffffffffffffffff"}, {255, "00000000000000ff"}, {-256, "ffffffffffffff00"}, {1 << 31, "0000000080000000"},
			{1 << 32, "0000000100000000"}, {-1 << 32, "ffffffff00000000"}, {0x123456789abcdef0, "123456789abcdef0"}, {-2, "fffffffffffffffe"},
			{least, "8000000000000000"}, {least + 1, "8000000000000001"}, {most, "7fffffffffffffff"}, {most - 1, "7ffffffffffffffe"},
		} {
			p := one()
			f.set(&p, x.n)
			b := changed(base, f.at, unhex(x.bytes)...)
			encodes(t, p, b)
			decodes(t, b, p)
		}
	}
}

func TestP22_1Ops(t *testing.T) {
	base, _ := Encode(one())
	for op := range 256 {
		p := one()
		p.Code[0].Op = op
		b := changed(base, opAt, byte(op))
		encodes(t, p, b)
		decodes(t, b, p)
	}
	for _, op := range []int{-1, -255, -256, 256, 257, 512 + api.IHold, 1 << 32, math.MinInt, math.MaxInt} {
		p := one()
		p.Code[0].Op = op
		noBytes(t, p)
	}
}

// Each element is asked, not the first or last one alone.
func TestP22_1OneOfMany(t *testing.T) {
	p := largest()
	for _, at := range []int{0, 1, 100, 254, 255} {
		kept := p.Wins[at]
		for _, w := range []api.Win{{Metric: -1}, {Metric: 1 << 31}, {Agg: -1}, {Agg: 1 << 31}} {
			p.Wins[at] = w
			noBytes(t, p)
		}
		p.Wins[at] = kept
	}
	for _, at := range []int{0, 1, 9000, 16382, 16383} {
		kept := p.Code[at]
		for _, op := range []int{-1, 256} {
			p.Code[at].Op = op
			noBytes(t, p)
		}
		p.Code[at] = kept
	}
	encodes(t, p, plainEncode(p))
}

func TestP22_1HowMany(t *testing.T) {
	p := largest()
	if len(p.Consts) != 16384 || len(p.Wins) != 256 || len(p.Crons) != 256 || len(p.Code) != 16384 {
		t.Fatal(len(p.Consts), len(p.Wins), len(p.Crons), len(p.Code))
	}
	encodes(t, p, plainEncode(p))
	for i, more := range []func(*api.Program, int){
		func(p *api.Program, n int) { p.Consts = make([]int64, 16384+n) },
		func(p *api.Program, n int) { p.Wins = make([]api.Win, 256+n) },
		func(p *api.Program, n int) { p.Crons = make([]api.Cron, 256+n) },
		func(p *api.Program, n int) { p.Code = make([]api.Instr, 16384+n) },
	} {
		for _, base := range []api.Program{{}, small(), full(), largest()} {
			for _, n := range []int{-1, 0} {
				more(&base, n)
				if b, errno := Encode(base); errno != api.OK || len(b) == 0 {
					t.Errorf("%d, %d: %s, %d", i, n, brief(b), errno)
				}
			}
			for _, n := range []int{1, 2, 256, 65536, 1 << 20} {
				more(&base, n)
				noBytes(t, base)
			}
		}
	}
}

// What is wrong in several places is still one error.
func TestP22_1ManyFaults(t *testing.T) {
	noBytes(t, api.Program{Metrics: -1, Locals: -1, Height: -1, Wins: []api.Win{{Metric: -1, Agg: -1}}, Code: []api.Instr{{Op: -1}}})
	noBytes(t, api.Program{Metrics: -1, Consts: make([]int64, 16385), Code: make([]api.Instr, 16385)})
}
