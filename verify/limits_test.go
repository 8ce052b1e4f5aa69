package verify

import (
	"fmt"
	"slices"
	"testing"

	"capstan/api"
)

func TestP23_1HeightOfTheStack(t *testing.T) {
	for _, x := range []struct {
		code     string
		height   int // that is reached
		at, next int // the instruction that leads to it, and the one that leads to one less
	}{
		{"IRep, ITo", 1, 0, 0},
		{"INum 0, ITo", 1, 0, 0},
		{"IWin 0, ITo", 1, 0, 0},
		{"ICron 0, ITo", 1, 0, 0},
		{"IFail 1, ITo", 1, 0, 0},
		{"IRep, ICopy, IAdd, ITo", 2, 1, 0},
		{"IRep, IRep, IRep, IAdd, IAdd, ITo", 3, 2, 1},
		{"IHave 0:2, IRep, ITo", 1, 0, 0},
		{"IRep, IHave 0:3, IRep, IAdd, ITo", 2, 1, 0},
		{"IRep, IRep, ISub, IRep, IRep, IAdd, IAdd, ITo", 3, 4, 1},
		{"IRep, ITry 4, IFail 1, IDone 5, IRep, IAdd, ITo", 2, 2, 0},
	} {
		for height := range x.height {
			want := x.at
			if height < x.height-1 {
				want = x.next
			}
			if height >= x.height-2 {
				refuses(t, full(height, x.code), want)
			}
		}
		for _, height := range []int{x.height, x.height + 1, 4096} {
			accepts(t, full(height, x.code))
		}
	}
	// Of an IHave the target alone is higher.
	refuses(t, full(0, "IHave 0:2, IHold, IHold"), 0)
	// What goes down, or on as it is, leads nowhere higher.
	accepts(t, full(0, "ITry 3, IJump 2, IDone 3, IHold"))
}

func TestP23_1HighestStack(t *testing.T) {
	p := bare(4096, "IRep*4096, IAdd*4095, ITo")
	accepts(t, p)
	p.Height = 4095
	refuses(t, p, 4095)
	p.Height = 4097
	refuses(t, p, 0)
	refuses(t, bare(4096, "IRep*4097, IAdd*4096, ITo"), 4096)
	got, _ := Heights(bare(4096, "IRep*4096, IDrop*4096, IHold"))
	for at, height := range got {
		if height != min(at, 8192-at) {
			t.Fatal(at, height)
		}
	}
}

// nest answers so many tries, each within the one ahead of it, all of which end one behind the other.
func nest(count int) api.Program {
	p := bare(0, "")
	for i := range count {
		p.Code = append(p.Code, api.Instr{Op: api.ITry, A: int64(2*count - i)})
	}
	for i := range count {
		p.Code = append(p.Code, api.Instr{Op: api.IDone, A: int64(count + i + 1)})
	}
	p.Code = append(p.Code, api.Instr{Op: api.IHold})
	return p
}

// As many tries as numbers may be open, whatever the program's own height.
func TestP23_1MostTries(t *testing.T) {
	for _, count := range []int{1, 2, 100, 4095, 4096} {
		high(t, nest(count), make([]int, 2*count+1)...)
	}
	for _, count := range []int{4097, 4098, 8191} {
		refuses(t, nest(count), 4096)
		p := nest(count)
		p.Height = 1
		refuses(t, p, 4096)
	}
	// When one is shut another may be opened.
	p := nest(4096)
	p.Code = slices.Insert(p.Code, 4097, instructions("ITry 4099, IDone 4099")...)
	for at, i := range p.Code {
		if i.A > 4097 && at != 4097 && at != 4098 {
			p.Code[at].A += 2
		}
	}
	accepts(t, p)
}

func TestP23_1LongestCode(t *testing.T) {
	p := bare(1, "IRep, INeg*16382, ITo")
	heights := slices.Repeat([]int{1}, 16384)
	heights[0] = 0
	high(t, p, heights...)
	// The farthest of jumps, and the last of locals.
	p = bare(1, "IHave 255:16383, IRep, INeg*16380, ISet 255, ITo")
	p.Locals = 256
	accepts(t, p)
	for _, a := range []int64{255*16384 + 16382, 255*16384 + 16381, 16383, 16382} {
		p.Code[0].A = a
		accepts(t, p)
	}
	for _, a := range []int64{256 * 16384, 256*16384 + 1, 256*16384 + 16383, 255 * 16384, 0, -1} {
		p.Code[0].A = a
		refuses(t, p, 0)
	}
	for _, op := range []string{"IZero", "ITry"} {
		end := map[string]string{"IZero": "IHold", "ITry": "IDone 16383, IHold"}[op]
		p = bare(1, fmt.Sprintf("IRep, %s 16383, IJump 3, %s", op, end))
		tail := p.Code[3:]
		p.Code = slices.Clone(p.Code[:3])
		for len(p.Code)+len(tail) < 16384 {
			p.Code = append(p.Code, api.Instr{Op: api.IJump, A: int64(len(p.Code) + 1)})
		}
		p.Code = append(p.Code, tail...)
		if op == "ITry" {
			p.Code[16383].Op = api.ITo
		}
		accepts(t, p)
		p.Code[1].A = 16384
		refuses(t, p, 1)
	}
}

func TestP23_1MostOfEachList(t *testing.T) {
	p := bare(2, "INum 16383, IScale 16382, IWin 255, IAdd, ICron 255, IAdd, ISet 255, ITo")
	p.Metrics, p.Locals = 64, 256
	p.Consts = slices.Repeat([]int64{1}, 16384)
	p.Wins = slices.Repeat([]api.Win{{Metric: 63, Agg: api.ASum, Span: 1}}, 256)
	p.Crons = slices.Repeat([]api.Cron{daily}, 256)
	accepts(t, p)
	for _, at := range []int{0, 1, 2, 4, 6} {
		spoiled := p
		spoiled.Code = slices.Clone(p.Code)
		spoiled.Code[at].A++
		refuses(t, spoiled, at)
	}
}
