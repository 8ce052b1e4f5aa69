package vm

import (
	"testing"

	"capstan/api"
)

// As many steps as there may be instructions, each of which is done.
func TestP24_4TheLongestRuns(t *testing.T) {
	runs(t, bare("INum 0, INeg*16382, ITo", 3000000), api.Env{}, wants(3), 16384)
	runs(t, bare("INum 0, INeg*16381, ITo", 3000000), api.Env{}, wants(-3), 16383)
	refuses(t, bare("INum 0, INeg*16383, ITo", 3000000), api.Env{}, api.ErrVerify)
	jumps := bare("IHold*16384")
	for at := range 16383 {
		jumps.Code[at] = api.Instr{Op: api.IJump, A: int64(at) + 1}
	}
	runs(t, jumps, api.Env{}, holds(api.Asked), 16384)
}

func TestP24_4TheFarthestTarget(t *testing.T) {
	p := bare("IRep, IZero 16383, IRep, INeg*16379, IDrop, IHold")
	runs(t, p, api.Env{}, holds(api.Asked), 3)
	runs(t, p, api.Env{Rep: 1}, holds(api.Asked), 16384)
	p = bare("ITry 16382, IFail 1, INeg*16379, IDone 16383, IRep, ITo")
	runs(t, p, api.Env{Rep: 5}, wants(5), 4)
	p.Code[1] = instructions("IRep")[0]
	runs(t, p, api.Env{Rep: 5}, wants(-5), 16383)
	p = bare("IJump 16382, IRep, ITo")
	refuses(t, p, api.Env{Rep: 5}, api.ErrVerify)
}

// The last local, and the last target.
func TestP24_4TheLastLocal(t *testing.T) {
	p := bare("INum 0, ISet 255, IDrop, IHave 255:16383, INum 1, INeg*16378, ITo", 8000000, 3000000)
	p.Locals = 256
	runs(t, p, api.Env{}, wants(8), 5)
	p.Code[1].A = 254
	runs(t, p, api.Env{}, wants(3), 16384)
}

func TestP24_4TheLastConstants(t *testing.T) {
	p := bare("INum 16383, IScale 16382, ITo", make([]int64, 16384)...)
	p.Consts[16381], p.Consts[16382], p.Consts[16383] = 1, 3, 7000000
	leaves(t, p, api.Env{}, 3)
}

func TestP24_4TheHighestStack(t *testing.T) {
	p := bare("INum 0*4096, IAdd*4095, ITo", 1000000)
	runs(t, p, api.Env{}, wants(4096), 8192)
	p = bare("INum 0, ICopy*4095, IMax2*2000, ISub*2095, ITo", 1000000)
	runs(t, p, api.Env{}, wants(0), 8192)
	p.Height = 4095
	refuses(t, p, api.Env{}, api.ErrVerify)
	refuses(t, bare("INum 0*4097, IAdd*4096, ITo", 1000000), api.Env{}, api.ErrVerify)
}

// deep answers a program of as many tries within one another, each with another way that comes to a reason but the outermost.
func deep(tries int, within string) api.Program {
	p := full("")
	for i := range tries {
		p.Code = append(p.Code, api.Instr{Op: api.ITry, A: int64(tries + 2 + 2*(tries-1-i))})
	}
	p.Code = append(p.Code, instructions(within)...)
	for i := range tries {
		at := int64(len(p.Code))
		p.Code = append(p.Code, api.Instr{Op: api.IDone, A: at + 2})
		if i < tries-1 {
			p.Code = append(p.Code, api.Instr{Op: api.IFail, A: 2})
		} else {
			p.Code = append(p.Code, api.Instr{Op: api.INum, A: 3})
		}
	}
	p.Code = append(p.Code, instructions("ITo")...)
	return p
}

func TestP24_4TheMostTries(t *testing.T) {
	for _, n := range []int{1, 2, 3, 100, 4095, 4096} {
		runs(t, deep(n, "IRep"), env(), wants(6), n+1+n+1)
		runs(t, deep(n, "IWin 1"), env(), wants(4), n+1+n+1)
		runs(t, deep(n, "IFail 3"), env(), wants(4), n+1+n+1)
	}
	refuses(t, deep(4097, "IRep"), env(), api.ErrVerify)
}

// Tries over a high stack of ones, each of which takes one and puts a two there, and at the end of which that stands.
func overHigh(height, tries int, end string) api.Program {
	p := bare("", 1000000, 2000000)
	for range height {
		p.Code = append(p.Code, instructions("INum 0")...)
	}
	for range tries {
		p.Code = append(p.Code, instructions("ITry 0, IDrop, INum 1")...)
	}
	for i := range tries {
		p.Code = append(p.Code, instructions(end)...)
		behind := int64(len(p.Code)) + 1
		p.Code = append(p.Code, api.Instr{Op: api.IDone, A: behind})
		p.Code[height+3*(tries-1-i)].A = behind
	}
	for range height - 1 {
		p.Code = append(p.Code, instructions("IAdd")...)
	}
	p.Code = append(p.Code, instructions("ITo")...)
	return p
}

func TestP24_4TriesOverHighStacks(t *testing.T) {
	const high, many = 2000, 1500
	// All end well: the topmost is a two. Each comes to a reason: what was there ahead of all.
	runs(t, overHigh(high, many, "ICopy, IDrop"), api.Env{}, wants(high+1), high+6*many+high)
	runs(t, overHigh(high, many, "IFail 1, IDrop"), api.Env{}, wants(high), high+4*many+high)
	p := overHigh(high, many, "IFail 1, IDrop")
	for i := range many - 1 {
		p.Code[high+3*many+3*(i+1)] = api.Instr{Op: api.ICopy}
	}
	// Only the innermost does: the next one's two.
	runs(t, p, api.Env{}, wants(high+1), high+3*many+1+3*(many-1)+high)
}

// All metrics, windows and schedules that a program may have.
func TestP24_3TheMostWindows(t *testing.T) {
	p := watching(64)
	p.Code = instructions("INum 0")
	for i := range 256 {
		p.Wins = append(p.Wins, api.Win{Metric: i % 64, Agg: api.ASum, Span: int64(i/64 + 1)})
		p.Crons = append(p.Crons, daily)
		p.Code = append(p.Code, api.Instr{Op: api.IWin, A: int64(i)}, api.Instr{Op: api.IAdd}, api.Instr{Op: api.ICron, A: int64(i)}, api.Instr{Op: api.ISub})
	}
	p.Crons[255].Minute = 2
	p.Code = append(p.Code, instructions("IFloor, ITo")...)
	m := machine(t, p)
	for id := range 64 {
		takes(t, m, id, 60, int64(id)*1000000+2)
	}
	sum := int64(64 * 63 / 2)
	ticks(t, m, 60, 0, wants(4*sum), 1027)
	ticks(t, m, 61, 0, wants(3*sum), 1027)
	ticks(t, m, 62, 0, wants(2*sum), 1027)
	ticks(t, m, 63, 0, wants(sum), 1027)
	ticks(t, m, 64, 0, wants(-1), 1027)
	ticks(t, m, 24*3600, 0, wants(-1), 1027)
	ticks(t, m, 24*3600+120, 0, wants(0), 1027)
}

// A window holds the newest MaxSamples; so does a machine's.
func TestP24_3ManySamples(t *testing.T) {
	m := machine(t, watching(1, api.Win{Agg: api.ACount, Span: 604800}, api.Win{Agg: api.ALow, Span: 604800}))
	for i := range int64(9000) {
		takes(t, m, 0, i/3, i*1000000)
	}
	ticks(t, m, 3000, 0, wants(4096+9000-4096), 6)
}
