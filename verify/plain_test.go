package verify

import (
	"math/bits"
	"math/rand"
	"testing"

	"capstan/api"
)

// The chapter once more, as it stands there, instruction by instruction, with nothing of the program's own.

type plainState struct{ stack, tries int }

type plainWay struct {
	to int
	plainState
}

func plainHead(p api.Program) bool {
	fine := p.Metrics >= 0 && p.Metrics <= 64 && p.Locals >= 0 && p.Locals <= 256 && p.Height >= 0 && p.Height <= 4096
	fine = fine && len(p.Consts) <= 16384 && len(p.Wins) <= 256 && len(p.Crons) <= 256 && len(p.Code) >= 1 && len(p.Code) <= 16384
	r := p.Rules
	fine = fine && 0 <= r.Min && r.Min <= r.Max && 1 <= r.Max && r.Max <= 1000000
	fine = fine && 1 <= r.Step && r.Step <= 1000000 && 0 <= r.Up && r.Up <= 604800 && 0 <= r.Down && r.Down <= 604800
	for _, w := range p.Wins {
		fine = fine && 0 <= w.Metric && w.Metric < p.Metrics && 1 <= w.Agg && w.Agg <= 6 && 1 <= w.Span && w.Span <= 604800
		if w.Agg == 6 {
			fine = fine && 1 <= w.Rank && w.Rank <= 100000000
		} else {
			fine = fine && w.Rank == 0
		}
	}
	for _, c := range p.Crons {
		for _, x := range []struct {
			set         uint64
			first, last int
		}{{c.Minute, 0, 59}, {c.Hour, 0, 23}, {c.Day, 1, 31}, {c.Month, 1, 12}, {c.Week, 0, 6}} {
			fine = fine && x.set != 0 && bits.TrailingZeros64(x.set) >= x.first && bits.Len64(x.set) <= x.last+1
		}
	}
	return fine
}

// plainLook answers the ways on from the instruction number at, to which the machine comes with s; and false, if A or s isn't
// what it must be.
func plainLook(p api.Program, at int, s plainState) ([]plainWay, bool) {
	a, length := p.Code[at].A, int64(len(p.Code))
	target := a > int64(at) && a < length
	on := func(more int) []plainWay { return []plainWay{{at + 1, plainState{s.stack + more, s.tries}}} }
	off := func(stack, tries int) plainWay {
		return plainWay{int(a % 16384), plainState{s.stack + stack, s.tries + tries}}
	}
	switch p.Code[at].Op {
	case 1:
		return on(1), a >= 0 && a < int64(len(p.Consts))
	case 2:
		return on(1), a == 0
	case 3:
		return on(1), a >= 0 && a < int64(len(p.Wins))
	case 4:
		return on(1), a >= 0 && a < int64(len(p.Crons))
	case 5:
		return on(1), a == 1 || a == 2 || a == 3
	case 6, 7, 8, 9, 10:
		return on(0), a == 0 && s.stack >= 1
	case 11:
		fine := a >= 0 && a < most && a+1 < int64(len(p.Consts)) && p.Consts[a] >= 0 && p.Consts[a+1] > 0
		return on(0), fine && s.stack >= 1
	case 12, 13, 14, 15, 16, 17, 18, 19, 20, 21, 22:
		return on(-1), a == 0 && s.stack >= 2
	case 23:
		return []plainWay{off(0, 0)}, target
	case 24:
		return append(on(-1), off(-1, 0)), target && s.stack >= 1
	case 25:
		return []plainWay{off(0, 0), {at + 1, plainState{s.stack, s.tries + 1}}}, target && s.tries < 4096
	case 26:
		return []plainWay{off(0, -1)}, target && s.tries >= 1
	case 27:
		for l := range int64(p.Locals) {
			if to := a - 16384*l; a > 0 && to > int64(at) && to < length {
				return append(on(0), off(1, 0)), true
			}
		}
		return nil, false
	case 28:
		return on(0), a >= 0 && a < int64(p.Locals) && s.stack >= 1
	case 29:
		return nil, a == 0 && s.stack == 0 && s.tries == 0
	case 30, 31:
		return nil, a == 0 && s.stack == 1 && s.tries == 0
	case 32:
		return on(1), a == 0 && s.stack >= 1
	case 33:
		return on(-1), a == 0 && s.stack >= 1
	}
	return nil, false
}

// plainCheck answers what Heights and Check do, and whether p is accepted.
func plainCheck(p api.Program) ([]int, int, bool) {
	if !plainHead(p) {
		return nil, 0, false
	}
	comes := make([][]plainState, len(p.Code))
	comes[0] = []plainState{{}}
	var heights []int
	for at := range p.Code {
		if len(comes[at]) == 0 {
			return nil, at, false
		}
		ways, fine := plainLook(p, at, comes[at][0])
		for _, w := range ways {
			if !fine || w.to >= len(p.Code) || w.stack > p.Height {
				return nil, at, false
			}
			comes[w.to] = append(comes[w.to], w.plainState)
			fine = comes[w.to][0] == w.plainState
		}
		if !fine {
			return nil, at, false
		}
		heights = append(heights, comes[at][0].stack)
	}
	return heights, 0, true
}

// stroll goes one way through p, which was accepted, as a machine would (chapter 24), but for what comes of the numbers: these
// are taken by chance. It wants on it that nothing is taken that isn't there, that the heights are those told, and that it ends.
func stroll(t *testing.T, m *rand.Rand, p api.Program, heights []int) {
	t.Helper()
	type attempt struct{ target, height int }
	var tries []attempt
	height, at := 0, 0
	for range p.Code {
		if at >= len(p.Code) || height != heights[at] || height < 0 || height > p.Height {
			t.Fatalf("%s: %d on the stack at %d", brief(p), height, at)
		}
		i := p.Code[at]
		target, chance := int(i.A%16384), m.Intn(2) == 0
		fails := i.Op == 5 || chance && (i.Op == 3 || i.Op == 15)
		at++
		switch {
		case fails && len(tries) == 0, i.Op == 29, i.Op == 30, i.Op == 31:
			return
		case fails:
			last := tries[len(tries)-1]
			tries, at, height = tries[:len(tries)-1], last.target, last.height
		case i.Op <= 4, i.Op == 32:
			height++
		case i.Op >= 12 && i.Op <= 22, i.Op == 33:
			height--
		case i.Op == 23:
			at = target
		case i.Op == 24:
			height--
			if chance {
				at = target
			}
		case i.Op == 25:
			tries = append(tries, attempt{target, height})
		case i.Op == 26:
			tries, at = tries[:len(tries)-1], target
		case i.Op == 27 && chance:
			height++
			at = target
		}
	}
	t.Fatalf("%s: more steps than instructions", brief(p))
}
