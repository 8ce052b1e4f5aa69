package fold

import (
	"math/big"
	"slices"

	"capstan/api"
)

// The chapter's table once more, row by row as it stands there, with the operations by their numbers; what is known is
// worked out without bounds and held at the end.

func plainFold(c api.Core) api.Core {
	c.Parts = slices.Clone(c.Parts)
	for i, part := range c.Parts {
		c.Parts[i] = plainFold(part)
	}
	for _, row := range plainRows {
		if row.fits(c) {
			return row.becomes(c)
		}
	}
	return c
}

type plainRow struct {
	fits    func(api.Core) bool
	becomes func(api.Core) api.Core
}

func plainConstant(c api.Core, i int) bool {
	return len(c.Parts) > i && (c.Parts[i].Op == 1 || c.Parts[i].Op == 2)
}

func plainFails(c api.Core, i int) bool {
	return len(c.Parts) > i && c.Parts[i].Op == 6
}

func plainFirst(c api.Core) api.Core { return c.Parts[0] }

func plainSecond(c api.Core) api.Core { return c.Parts[1] }

func plainAmong(op, from, to int) bool { return from <= op && op <= to }

var plainRows = []plainRow{
	{func(c api.Core) bool { return c.Op == 28 && plainConstant(c, 0) }, func(c api.Core) api.Core {
		if c.Parts[0].N == 1 {
			return c.Parts[1]
		}
		return c.Parts[2]
	}},
	{func(c api.Core) bool { return c.Op == 25 && plainConstant(c, 0) }, func(c api.Core) api.Core {
		if c.Parts[0].N == 0 {
			return c.Parts[0]
		}
		return c.Parts[1]
	}},
	{func(c api.Core) bool { return c.Op == 26 && plainConstant(c, 0) }, func(c api.Core) api.Core {
		if c.Parts[0].N == 1 {
			return c.Parts[0]
		}
		return c.Parts[1]
	}},
	{func(c api.Core) bool { return c.Op == 27 && plainConstant(c, 0) }, plainFirst},
	{func(c api.Core) bool { return c.Op == 27 && plainFails(c, 0) }, plainSecond},
	{func(c api.Core) bool {
		return (plainAmong(c.Op, 8, 26) && c.Op != 13 || c.Op == 28) && plainFails(c, 0)
	}, func(c api.Core) api.Core {
		return api.Core{Op: 6, N: c.Parts[0].N, M: plainM(c)}
	}},
	{func(c api.Core) bool { return (c.Op == 13 || c.Op == 7) && plainFails(c, 0) }, plainFirst},
	{func(c api.Core) bool { return plainAmong(c.Op, 14, 24) && plainConstant(c, 0) && plainFails(c, 1) }, func(c api.Core) api.Core {
		return api.Core{Op: 6, N: c.Parts[1].N, M: plainM(c)}
	}},
	{func(c api.Core) bool {
		return plainAmong(c.Op, 8, 24) && plainConstant(c, 0) && (len(c.Parts) == 1 || plainConstant(c, 1))
	}, plainKnown},
	{func(c api.Core) bool { return c.Op == 7 && plainConstant(c, 0) }, plainFirst},
	{func(c api.Core) bool { return c.Op == 32 && plainConstant(c, 0) }, func(c api.Core) api.Core {
		for parts := c.Parts[1:]; len(parts) > 1; parts = parts[2:] {
			if parts[0].N > c.Parts[0].N {
				return parts[1]
			}
		}
		return c.Parts[len(c.Parts)-1]
	}},
}

// plainM is 2 of what is a truth.
func plainM(c api.Core) int64 {
	if c.Op == 9 || plainAmong(c.Op, 18, 22) || c.Op == 25 || c.Op == 26 || c.Op == 28 && plainTruth(c.Parts[1]) {
		return 2
	}
	return 1
}

// plainTruth answers whether c, which is formed, is a truth.
func plainTruth(c api.Core) bool {
	switch c.Op {
	case 2, 5, 9, 18, 19, 20, 21, 22, 25, 26:
		return true
	case 6:
		return c.M == 2
	case 7, 27:
		return plainTruth(c.Parts[0])
	case 28:
		return plainTruth(c.Parts[1])
	}
	return false
}

// plainHeld answers the constant of n.
func plainHeld(n *big.Int) api.Core {
	switch {
	case n.IsInt64():
		return num(n.Int64())
	case n.Sign() < 0:
		return num(least)
	}
	return num(most)
}

// plainOver answers a divided by b, rounded down.
func plainOver(a, b *big.Int) *big.Int {
	n, rest := new(big.Int).QuoRem(a, b, new(big.Int))
	if rest.Sign() != 0 && rest.Sign() != b.Sign() {
		n.Sub(n, big.NewInt(1))
	}
	return n
}

// plainKnown answers what an operation comes to whose parts are constants.
func plainKnown(c api.Core) api.Core {
	a, b, one, n := big.NewInt(c.Parts[0].N), big.NewInt(c.Parts[len(c.Parts)-1].N), big.NewInt(1000000), new(big.Int)
	switch c.Op {
	case 8:
		return plainHeld(n.Neg(a))
	case 9:
		return truthIs(a.Sign() == 0)
	case 10:
		return plainHeld(n.Abs(a))
	case 11:
		return plainHeld(n.Neg(n.Mul(plainOver(n.Neg(a), one), one)))
	case 12:
		return plainHeld(n.Mul(plainOver(a, one), one))
	case 13:
		return plainHeld(plainOver(n.Mul(a, big.NewInt(c.N)), big.NewInt(c.M)))
	case 14:
		return plainHeld(n.Add(a, b))
	case 15:
		return plainHeld(n.Sub(a, b))
	case 16:
		return plainHeld(plainOver(n.Mul(a, b), one))
	case 17:
		if b.Sign() == 0 {
			return fail(2, 1)
		}
		return plainHeld(plainOver(n.Mul(a, one), b))
	case 18, 19, 20, 21, 22:
		return truthIs(slices.Contains(map[int][]int{18: {-1}, 19: {-1, 0}, 20: {0}, 21: {1}, 22: {0, 1}}[c.Op], a.Cmp(b)))
	case 23:
		return num(min(c.Parts[0].N, c.Parts[1].N))
	}
	return num(max(c.Parts[0].N, c.Parts[1].N))
}
