package fold

import (
	"fmt"
	"math"
	"slices"
	"testing"

	"capstan/api"
	"capstan/core"
)

const (
	most  = math.MaxInt64
	least = math.MinInt64
)

func num(n int64) api.Core {
	return api.Core{Op: api.ONum, N: n}
}

func of(op int, parts ...api.Core) api.Core {
	return api.Core{Op: op, Parts: parts}
}

func fail(reason, sort int64) api.Core {
	return api.Core{Op: api.OFail, N: reason, M: sort}
}

func memo(n int64, part api.Core) api.Core {
	return api.Core{Op: api.OMemo, N: n, Parts: []api.Core{part}}
}

func scaled(n, m int64, part api.Core) api.Core {
	return api.Core{Op: api.OScale, N: n, M: m, Parts: []api.Core{part}}
}

func win(n int64) api.Core {
	return api.Core{Op: api.OWin, N: n}
}

func sched(n int64) api.Core {
	return api.Core{Op: api.OCron, N: n}
}

func to(n int64) api.Core {
	return of(api.OTo, num(n))
}

func truthIs(holds bool) api.Core {
	if holds {
		return yes
	}
	return no
}

var (
	no   = api.Core{Op: api.OBool}
	yes  = api.Core{Op: api.OBool, N: 1}
	rep  = api.Core{Op: api.ORep}
	hold = api.Core{Op: api.OHold}
	zero = of(api.ODiv, num(1), num(0)) // a number that comes to DivZero
	less = of(api.OLess, rep, num(5))   // a truth that isn't known
)

// The operations, as the chapter's table puts them together.
var (
	ofNumber  = []int{api.ONeg, api.OAbs, api.OCeil, api.OFloor}
	ofNumbers = []int{api.OAdd, api.OSub, api.OMul, api.ODiv, api.OMin, api.OMax}
	compared  = []int{api.OLess, api.OLeq, api.OEq, api.OMore, api.OMeq}
	joined    = []int{api.OAnd, api.OOr}
)

// brief answers what x is, without the rest of a large one.
func brief(x any) string {
	text := fmt.Sprint(x)
	return text[:min(len(text), 300)]
}

func becomes(t *testing.T, c, want api.Core) {
	t.Helper()
	if got, errno := Core(c); !core.Same(got, want) || errno != api.OK {
		t.Errorf("Core(%s) = %s, %d, wanted %s", brief(c), brief(got), errno, brief(want))
	}
}

func stays(t *testing.T, c api.Core) {
	t.Helper()
	becomes(t, c, c)
}

func noFold(t *testing.T, c api.Core) {
	t.Helper()
	if got, errno := Core(c); !core.Same(got, api.Core{}) || errno != api.ErrForm {
		t.Errorf("Core(%s) = %s, %d, wanted ErrForm", brief(c), brief(got), errno)
	}
}

func TestP18_1Examples(t *testing.T) {
	becomes(t, of(api.OAdd, num(1), num(2)), num(3))
	becomes(t, of(api.ODiv, num(1), num(0)), fail(2, 1))
	becomes(t, of(api.OAdd, zero, rep), fail(2, 1))
	becomes(t, of(api.OAdd, rep, zero), of(api.OAdd, rep, fail(2, 1)))
	stays(t, of(api.OAdd, rep, fail(2, 1)))
	becomes(t, of(api.OEither, zero, num(7)), num(7))
	becomes(t, of(api.OAnd, yes, less), less)
	becomes(t, of(api.OIf, of(api.OLess, num(1), num(2)), rep, win(3)), rep)
	becomes(t, of(api.OMul, rep, of(api.OAdd, num(2), num(3))), of(api.OMul, rep, num(5)))
}

func TestP18_1WhatHasNoParts(t *testing.T) {
	for _, c := range []api.Core{num(0), num(1), num(-7), num(most), num(least), no, yes, rep, hold, win(0), win(255), sched(0), sched(255)} {
		stays(t, c)
		c.Parts = []api.Core{}
		stays(t, c)
	}
	for reason := range int64(3) {
		stays(t, fail(reason+1, 1))
		stays(t, fail(reason+1, 2))
	}
}

func TestP18_1ChoicesOfAConstant(t *testing.T) {
	for _, x := range [][2]api.Core{{num(4), num(5)}, {rep, win(1)}, {fail(1, 1), rep}, {less, sched(1)}, {no, fail(3, 2)}, {yes, no}} {
		a, b := x[0], x[1]
		becomes(t, of(api.OIf, yes, a, b), a)
		becomes(t, of(api.OIf, no, a, b), b)
		stays(t, of(api.OIf, sched(0), a, b))
	}
	for _, c := range []api.Core{less, sched(0), fail(1, 2), fail(3, 2), no, yes} {
		becomes(t, of(api.OAnd, no, c), no)
		becomes(t, of(api.OAnd, yes, c), c)
		becomes(t, of(api.OOr, no, c), c)
		becomes(t, of(api.OOr, yes, c), yes)
		becomes(t, of(api.OEither, no, c), no)
		becomes(t, of(api.OEither, yes, c), yes)
		// The second part alone says nothing.
		for _, op := range []int{api.OAnd, api.OOr, api.OEither} {
			stays(t, of(op, sched(1), c))
			stays(t, of(op, less, c))
		}
		stays(t, of(api.OIf, sched(1), c, c))
	}
	for _, c := range []api.Core{rep, win(0), fail(2, 1), num(9)} {
		becomes(t, of(api.OEither, num(0), c), num(0))
		becomes(t, of(api.OEither, num(least), c), num(least))
		becomes(t, of(api.OEither, num(most), c), num(most))
		stays(t, of(api.OEither, rep, c))
		stays(t, of(api.OEither, win(2), c))
		stays(t, of(api.OIf, sched(1), c, c))
	}
}

func TestP18_1FailsInTheFirstPart(t *testing.T) {
	for reason := int64(1); reason <= 3; reason++ {
		number, truth := fail(reason, 1), fail(reason, 2)
		for _, op := range ofNumber {
			becomes(t, of(op, number), number)
		}
		becomes(t, of(api.ONot, truth), truth)
		becomes(t, scaled(0, 1, number), number)
		becomes(t, scaled(most, most, number), number)
		becomes(t, memo(0, number), number)
		becomes(t, memo(255, truth), truth)
		for _, second := range []api.Core{num(0), num(5), rep, win(7), fail(4-reason, 1), fail(1, 1), of(api.OAdd, rep, rep)} {
			for _, op := range ofNumbers {
				becomes(t, of(op, number, second), number)
			}
			for _, op := range compared {
				becomes(t, of(op, number, second), truth)
			}
			becomes(t, of(api.OEither, number, second), second)
			becomes(t, of(api.OIf, truth, second, rep), number)
			becomes(t, of(api.OIf, truth, rep, second), number)
		}
		for _, second := range []api.Core{no, yes, less, sched(1), fail(4-reason, 2), fail(1, 2)} {
			for _, op := range joined {
				becomes(t, of(op, truth, second), truth)
			}
			becomes(t, of(api.OEither, truth, second), second)
			becomes(t, of(api.OIf, truth, second, less), truth)
			becomes(t, of(api.OIf, truth, less, second), truth)
		}
	}
}

func TestP18_1FailsInTheSecondPart(t *testing.T) {
	for reason := int64(1); reason <= 3; reason++ {
		number, truth := fail(reason, 1), fail(reason, 2)
		for _, first := range []api.Core{num(0), num(1), num(-1), num(least), num(most)} {
			for _, op := range ofNumbers {
				becomes(t, of(op, first, number), number)
			}
			for _, op := range compared {
				becomes(t, of(op, first, number), truth)
			}
			becomes(t, of(api.OEither, first, number), first)
		}
		// What isn't known may come to a reason of its own.
		for _, first := range []api.Core{rep, win(0), memo(1, rep), of(api.ONeg, win(1)), of(api.OEither, win(0), num(1))} {
			for _, op := range slices.Concat(ofNumbers, compared) {
				stays(t, of(op, first, number))
			}
			stays(t, of(api.OEither, first, number))
		}
		for _, first := range []api.Core{sched(0), less} {
			for _, op := range joined {
				stays(t, of(op, first, truth))
			}
			stays(t, of(api.OEither, first, truth))
			stays(t, of(api.OIf, first, number, rep))
			stays(t, of(api.OIf, first, rep, number))
			stays(t, of(api.OIf, first, number, number))
		}
	}
}

func TestP18_1Actions(t *testing.T) {
	for _, op := range []int{api.OTo, api.OBy} {
		for _, part := range []api.Core{num(0), num(2000001), rep, win(0), fail(1, 1), fail(3, 1), of(api.OAdd, rep, num(1))} {
			stays(t, of(op, part))
		}
		becomes(t, of(op, zero), of(op, fail(2, 1)))
		becomes(t, of(op, of(api.OSub, num(5), num(7))), of(op, num(-2)))
		becomes(t, of(op, memo(3, num(7))), of(op, num(7)))
	}
}

func TestP18_1Memos(t *testing.T) {
	for _, c := range []api.Core{num(4), num(0), num(least), no, yes, fail(1, 1), fail(2, 2)} {
		becomes(t, memo(0, c), c)
		becomes(t, memo(255, memo(7, c)), c)
	}
	for _, c := range []api.Core{rep, win(0), sched(0), less, of(api.ONeg, rep), memo(9, rep)} {
		stays(t, memo(0, c))
		stays(t, memo(255, c))
	}
	becomes(t, memo(5, of(api.OAdd, num(1), num(2))), num(3))
	becomes(t, memo(5, of(api.OAdd, rep, of(api.OAdd, num(1), num(2)))), memo(5, of(api.OAdd, rep, num(3))))
	becomes(t, memo(5, of(api.OIf, yes, rep, zero)), memo(5, rep))
	// Of a core alone it isn't asked that the OMemos of one N are alike.
	becomes(t, of(api.OAdd, memo(1, rep), memo(1, zero)), of(api.OAdd, memo(1, rep), fail(2, 1)))
}

func TestP18_1Ladders(t *testing.T) {
	a, b, other := to(1), of(api.OBy, rep), of(api.OTo, win(2))
	ladder := func(v api.Core) api.Core { return of(api.OLadder, v, num(0), a, num(5), b, num(10), hold, other) }
	for v, want := range map[int64]api.Core{least: a, -1: a, 0: b, 1: b, 4: b, 5: hold, 9: hold, 10: other, 11: other, most: other} {
		becomes(t, ladder(num(v)), want)
		becomes(t, ladder(of(api.OAdd, num(v), num(0))), want)
		becomes(t, ladder(memo(1, num(v))), want)
	}
	for v, want := range map[int64]api.Core{least: b, least + 1: b, most - 1: b, most: other} {
		becomes(t, of(api.OLadder, num(v), num(least), a, num(most), b, other), want)
	}
	becomes(t, of(api.OLadder, num(3), other), other)
	stays(t, of(api.OLadder, rep, other))
	stays(t, ladder(rep))
	stays(t, ladder(fail(1, 1))) // no action can be an OFail
	becomes(t, ladder(zero), ladder(fail(2, 1)))
	becomes(t, ladder(of(api.OMul, rep, of(api.ONeg, num(3)))), ladder(of(api.OMul, rep, num(-3))))
	// Alike actions stay: nothing but what is known is worked out.
	stays(t, of(api.OLadder, rep, num(1), hold, num(2), hold, hold))
	// The actions within are folded, and ladders among them taken.
	inner := of(api.OLadder, num(7), num(7), a, num(8), of(api.OTo, of(api.OAdd, num(1), num(1))), b)
	becomes(t, of(api.OLadder, rep, num(1), inner, inner), of(api.OLadder, rep, num(1), to(2), to(2)))
	becomes(t, of(api.OLadder, num(0), num(1), inner, hold), to(2))
	becomes(t, of(api.OLadder, num(1), num(1), hold, inner), to(2))
}

// The numbers are those of a reckoning without bounds, at all edges.
func TestP18_1AllThatIsKnown(t *testing.T) {
	edges := []int64{least, least + 1, least + 999999, -2*api.One - 1, -2 * api.One, -1500000, -api.One, -999999, -2, -1, 0, 1, 2, 3, 999999, api.One, 1500000, 2 * api.One, 3*api.One + 1, 1 << 62, most - 999999, most - 1, most}
	for _, a := range edges {
		for _, op := range ofNumber {
			becomes(t, of(op, num(a)), plainKnown(of(op, num(a))))
		}
		for _, n := range edges {
			for _, m := range edges {
				if n >= 0 && m >= 1 {
					c := scaled(n, m, num(a))
					becomes(t, c, plainKnown(c))
				}
			}
		}
		for _, b := range edges {
			for _, op := range slices.Concat(ofNumbers, compared) {
				c := of(op, num(a), num(b))
				becomes(t, c, plainKnown(c))
			}
		}
		becomes(t, of(api.ODiv, num(a), num(0)), fail(2, 1))
	}
}

func TestP18_1WhatIsKnown(t *testing.T) {
	for _, x := range []struct{ c, want api.Core }{
		{of(api.ONot, no), yes}, {of(api.ONot, yes), no}, {of(api.ONeg, num(5)), num(-5)}, {of(api.ONeg, num(least)), num(most)}, {of(api.OAbs, num(-5)), num(5)}, {of(api.OAbs, num(least)), num(most)},
		{of(api.OCeil, num(1)), num(1000000)}, {of(api.OCeil, num(-1)), num(0)}, {of(api.OFloor, num(1)), num(0)}, {of(api.OFloor, num(-1)), num(-1000000)}, {of(api.OCeil, num(most)), num(most)}, {of(api.OFloor, num(least)), num(least)},
		{scaled(1, 2, num(7)), num(3)}, {scaled(1, 2, num(-7)), num(-4)}, {scaled(0, 5, num(7)), num(0)}, {scaled(2, 1, num(most)), num(most)},
		{of(api.OAdd, num(most), num(1)), num(most)}, {of(api.OSub, num(least), num(1)), num(least)}, {of(api.OMul, num(1500000), num(-1)), num(-2)}, {of(api.ODiv, num(-1), num(3000000)), num(-1)}, {of(api.ODiv, num(most), num(1)), num(most)},
		{of(api.ODiv, num(0), num(0)), fail(2, 1)}, {of(api.OMin, num(-1), num(1)), num(-1)}, {of(api.OMax, num(-1), num(1)), num(1)},
	} {
		becomes(t, x.c, x.want)
	}
	for _, pair := range [][2]int64{{1, 2}, {2, 2}, {2, 1}, {least, most}, {most, least}} {
		a, b := num(pair[0]), num(pair[1])
		becomes(t, of(api.OLess, a, b), truthIs(pair[0] < pair[1]))
		becomes(t, of(api.OLeq, a, b), truthIs(pair[0] <= pair[1]))
		becomes(t, of(api.OEq, a, b), truthIs(pair[0] == pair[1]))
		becomes(t, of(api.OMore, a, b), truthIs(pair[0] > pair[1]))
		becomes(t, of(api.OMeq, a, b), truthIs(pair[0] >= pair[1]))
	}
	// One part that isn't known is enough to stay, whatever the other is.
	for _, op := range slices.Concat(ofNumbers, compared) {
		for _, known := range []api.Core{num(0), num(1), num(api.One)} {
			stays(t, of(op, known, rep))
			stays(t, of(op, rep, known))
		}
		stays(t, of(op, rep, rep))
	}
	for _, op := range ofNumber {
		stays(t, of(op, rep))
		stays(t, of(op, of(op, win(0))))
	}
	stays(t, of(api.ONot, sched(0)))
	stays(t, of(api.ONot, of(api.ONot, sched(0))))
	stays(t, scaled(1, 1, rep))
	stays(t, scaled(0, 1, win(0)))
}

// What is folded stands for the part ahead of the node being looked at.
func TestP18_1FromTheInside(t *testing.T) {
	sum := of(api.OAdd, num(1), num(2))
	becomes(t, of(api.OMul, of(api.OSub, sum, num(3)), rep), of(api.OMul, num(0), rep))
	becomes(t, of(api.OIf, of(api.OAnd, of(api.ONot, no), of(api.OMeq, sum, num(3))), sum, rep), num(3))
	becomes(t, of(api.OIf, of(api.OEq, zero, rep), sum, rep), fail(2, 1))
	becomes(t, of(api.OIf, of(api.OEq, zero, rep), less, yes), fail(2, 2))
	becomes(t, of(api.OEither, of(api.OEither, zero, fail(1, 1)), of(api.OEither, fail(3, 1), sum)), num(3))
	becomes(t, of(api.OAdd, memo(1, scaled(1, 3, num(7))), memo(1, scaled(1, 3, num(7)))), num(4))
	becomes(t, of(api.OAdd, num(1), of(api.OAdd, num(2), fail(3, 1))), fail(3, 1))
	becomes(t, of(api.OAdd, num(1), of(api.OAdd, rep, fail(3, 1))), of(api.OAdd, num(1), of(api.OAdd, rep, fail(3, 1))))
	becomes(t, of(api.OOr, of(api.OLess, sum, num(3)), of(api.OLess, rep, sum)), of(api.OLess, rep, num(3)))
	becomes(t, of(api.OTo, of(api.OMax, rep, of(api.OEither, zero, sum))), of(api.OTo, of(api.OMax, rep, num(3))))
	becomes(t, of(api.OAdd, of(api.OAdd, rep, num(1)), num(2)), of(api.OAdd, of(api.OAdd, rep, num(1)), num(2)))
	becomes(t, deep(api.ONeg, 4095, num(5)), num(-5))
	becomes(t, deep(api.ONot, 4095, yes), no)
	becomes(t, deep(api.OAdd, 2047, num(5), num(1)), num(2052))
	becomes(t, deepLast(api.OAdd, 2047, fail(1, 1), num(1)), fail(1, 1))
	becomes(t, deepLast(api.OEither, 2047, rep, fail(1, 1)), rep)
	becomes(t, deepLast(api.OIf, 1365, rep, no, num(1)), rep)
	becomes(t, deep(api.OIf, 1365, fail(1, 2), yes, no), fail(1, 2))
	becomes(t, deepLast(api.OLadder, 1023, to(3), num(1), num(1), hold), to(3))
	becomes(t, deep(api.OMemo, 4095, no), no)
	stays(t, deep(api.ONeg, 4095, rep))
	stays(t, deep(api.OMax, 2047, rep, num(1)))
	stays(t, deepLast(api.OMax, 2047, rep, num(1)))
}

// deep answers a core of the operation, around itself as often as said, with the part c at the bottom; the other
// parts of each are rest.
func deep(op, times int, c api.Core, rest ...api.Core) api.Core {
	for range times {
		c = of(op, append([]api.Core{c}, rest...)...)
	}
	return c
}

// deepLast is the same with c as the last part.
func deepLast(op, times int, c api.Core, rest ...api.Core) api.Core {
	for range times {
		c = of(op, append(slices.Clone(rest), c)...)
	}
	return c
}

// doubled answers a sum of c and c, that of it and itself, and so on: 2^(times + 1) - 1 nodes, if c is one.
func doubled(times int, c api.Core) api.Core {
	for range times {
		c = of(api.OAdd, c, c)
	}
	return c
}

func TestP18_1TooManyNodes(t *testing.T) {
	stays(t, deep(api.ONeg, 4095, rep))
	noFold(t, deep(api.ONeg, 4096, rep))
	noFold(t, deep(api.ONeg, 4097, rep))
	becomes(t, of(api.ONeg, doubled(11, num(1))), num(-2048)) // 4096 nodes
	noFold(t, doubled(12, num(1)))                            // 8191: though it would be one number
	noFold(t, doubled(60, num(1)))
	noFold(t, deep(api.ONeg, 1<<16-1, num(1)))
	noFold(t, of(api.OIf, yes, rep, deep(api.ONeg, 4096, rep))) // though it would be left out
	noFold(t, of(api.OHold, make([]api.Core, 1<<18)...))
	rungs := func(count int) api.Core {
		c := of(api.OLadder, num(0))
		for i := range count {
			c.Parts = append(c.Parts, num(int64(i)), hold)
		}
		c.Parts = append(c.Parts, to(7))
		return c
	}
	becomes(t, rungs(2046), hold) // 2 + 4092 + 2 nodes
	noFold(t, rungs(2047))
	becomes(t, of(api.OLadder, append([]api.Core{of(api.ONeg, num(1))}, rungs(2045).Parts[1:]...)...), hold)
}

func TestP18_1WindowsSchedulesLocals(t *testing.T) {
	for _, c := range []api.Core{win(255), of(api.ONeg, win(255)), sched(255), of(api.ONot, sched(255)), memo(255, rep), of(api.OTo, memo(255, win(0)))} {
		stays(t, c)
	}
	for _, n := range []int64{-1, 256, 257, 1 << 32, least, most} {
		noFold(t, win(n))
		noFold(t, sched(n))
		noFold(t, memo(n, rep))
		noFold(t, memo(n, num(1)))
		noFold(t, of(api.OTo, of(api.OIf, yes, num(1), win(n)))) // though it would be left out
		noFold(t, of(api.OAnd, no, sched(n)))
	}
}

func TestP18_1NotFormed(t *testing.T) {
	unformed := []api.Core{
		{}, {Op: -1}, {Op: 33}, {Op: math.MaxInt}, {Op: math.MinInt}, {Op: 1<<32 + 1}, of(api.OAdd, num(1), yes), of(api.OAdd, num(1)), of(api.OAdd, num(1), num(2), num(3)), of(api.OAdd), of(api.ONeg), of(api.ONeg, yes), of(api.ONot, num(0)),
		{Op: api.OBool, N: 2}, {Op: api.OBool, N: -1}, {Op: api.OBool, M: 1}, {Op: api.ONum, M: 1}, {Op: api.ORep, N: 1}, of(api.ONum, num(1)), of(api.OBool, no), of(api.OFail),
		fail(0, 1), fail(4, 1), fail(1, 0), fail(1, 3), fail(-1, 2), of(api.OAnd, yes, num(1)), of(api.OAnd, num(1), yes), of(api.OOr, no, rep), of(api.OEither, num(1), yes), of(api.OEither, hold, hold),
		of(api.OIf, num(1), rep, rep), of(api.OIf, yes, rep, less), of(api.OIf, yes, hold, hold), of(api.OIf, yes, rep), scaled(-1, 1, num(1)), scaled(1, 0, num(1)), scaled(1, 1, yes), memo(0, hold), of(api.OMemo),
		of(api.OTo, yes), of(api.OTo, hold), of(api.OTo), of(api.OHold, num(1)), of(api.OLadder), of(api.OLadder, num(1)), of(api.OLadder, num(1), num(2), hold), of(api.OLadder, yes, hold), of(api.OLadder, num(1), num(5), hold, num(5), hold, hold),
		of(api.OLadder, num(1), of(api.ONeg, num(-5)), hold, hold), of(api.OLadder, num(1), rep, hold, hold), {Op: api.OAdd, N: 1, Parts: []api.Core{num(1), num(2)}}, {Op: api.OIf, M: 1, Parts: []api.Core{yes, num(1), num(2)}},
	}
	for _, c := range unformed {
		noFold(t, c)
		// Where it would be left out too.
		noFold(t, of(api.OIf, yes, num(1), c))
		noFold(t, of(api.OAnd, no, c))
		noFold(t, of(api.OEither, num(1), c))
		noFold(t, of(api.OAdd, fail(1, 1), c))
		noFold(t, of(api.OLadder, num(1), num(2), hold, c))
		noFold(t, of(api.OTo, of(api.ONeg, c)))
	}
}

// Every operation, with every list of parts from a few of each kind, is held against the table read once more.
func TestP18_1EveryOpOfEveryKindOfParts(t *testing.T) {
	kinds := []api.Core{num(0), num(3), no, yes, rep, win(1), sched(0), fail(1, 1), fail(2, 1), fail(3, 2), memo(1, rep), memo(2, num(3)), less, zero, hold, to(1)}
	formed := 0
	try := func(c api.Core) {
		if core.Sort(c, 256, 256, 256) == 0 {
			noFold(t, c)
			return
		}
		formed++
		becomes(t, c, plainFold(c))
	}
	for op := -1; op <= 34; op++ {
		for _, head := range []api.Core{{Op: op}, {Op: op, N: 1}, {Op: op, N: 2, M: 1}, {Op: op, N: 3, M: 2}} {
			try(head)
			for _, a := range kinds {
				head.Parts = []api.Core{a}
				try(head)
				for _, b := range kinds {
					head.Parts = []api.Core{a, b}
					try(head)
					for _, c := range kinds {
						head.Parts = []api.Core{a, b, c}
						try(head)
					}
				}
			}
		}
	}
	for _, a := range kinds {
		for _, b := range kinds {
			for _, c := range kinds {
				for _, d := range kinds {
					try(of(api.OLadder, a, b, c, d))
				}
			}
		}
	}
	if formed < 1500 {
		t.Error(formed)
	}
}
