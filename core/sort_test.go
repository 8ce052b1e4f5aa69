package core

import (
	"fmt"
	"math"
	"slices"
	"strconv"
	"testing"

	"capstan/api"
)

func num(n int64) api.Core {
	return api.Core{Op: api.ONum, N: n}
}

func of(op int, parts ...api.Core) api.Core {
	return api.Core{Op: op, Parts: parts}
}

func fail(reason api.Reason, sort int64) api.Core {
	return api.Core{Op: api.OFail, N: int64(reason), M: sort}
}

func memo(n int64, part api.Core) api.Core {
	return api.Core{Op: api.OMemo, N: n, Parts: []api.Core{part}}
}

func scaled(n, m int64, part api.Core) api.Core {
	return api.Core{Op: api.OScale, N: n, M: m, Parts: []api.Core{part}}
}

func win(n int64) api.Core {
	return api.Core{Op: api.OWin, N: n}
}

func sched(n int64) api.Core {
	return api.Core{Op: api.OCron, N: n}
}

var (
	no   = api.Core{Op: api.OBool}
	yes  = api.Core{Op: api.OBool, N: 1}
	rep  = api.Core{Op: api.ORep}
	hold = api.Core{Op: api.OHold}
	zero = of(api.ODiv, num(1), num(0)) // a number that comes to DivZero
)

// What the tests of Sort have, where they don't ask for that.
const (
	wins3   = 3
	crons2  = 2
	locals4 = 4
)

// samples answers a core of each sort, from 0 to 3.
func samples() [4][]api.Core {
	return [4][]api.Core{
		{{}, {Op: 33}, of(api.OAdd, num(1)), {Op: api.OBool, N: 2}, of(api.ONeg, no), of(api.OTo, hold), {Op: api.OHold, N: 1}},
		{num(-7), rep, win(2), fail(api.Taint, 1), of(api.OAdd, num(1), rep), memo(3, num(1)), of(api.OIf, yes, num(1), zero)},
		{no, yes, sched(1), fail(api.NoData, 2), of(api.ONot, no), of(api.OLess, num(1), num(2)), memo(0, yes), of(api.OEither, no, yes)},
		{hold, of(api.OTo, num(1)), of(api.OBy, rep), of(api.OLadder, rep, hold), of(api.OLadder, rep, num(1), hold, hold)},
	}
}

// takes answers the sorts of the parts that each operation may have, and its own sort behind a >. OFail's is its M,
// which is 2 here.
func takes() map[int][]string {
	list := map[int][]string{
		api.ONum: {">1"}, api.OBool: {">2"}, api.ORep: {">1"}, api.OWin: {">1"}, api.OCron: {">2"}, api.OFail: {">2"},
		api.OMemo: {"1>1", "2>2"},
		api.ONot:  {"2>2"},
		api.OAnd:  {"22>2"}, api.OOr: {"22>2"},
		api.OEither: {"11>1", "22>2"},
		api.OIf:     {"211>1", "222>2"},
		api.OHold:   {">3"},
		api.OTo:     {"1>3"}, api.OBy: {"1>3"},
		api.OLadder: {"13>3", "1133>3"},
	}
	for _, op := range []int{api.ONeg, api.OAbs, api.OCeil, api.OFloor, api.OScale} {
		list[op] = []string{"1>1"}
	}
	for _, op := range []int{api.OAdd, api.OSub, api.OMul, api.ODiv, api.OMin, api.OMax} {
		list[op] = []string{"11>1"}
	}
	for _, op := range []int{api.OLess, api.OLeq, api.OEq, api.OMore, api.OMeq} {
		list[op] = []string{"11>2"}
	}
	return list
}

// head answers a core of the operation with such an N and M as it may have, without parts.
func head(op int) api.Core {
	switch op {
	case api.ONum:
		return num(-5)
	case api.OBool, api.OCron:
		return api.Core{Op: op, N: 1}
	case api.OWin:
		return win(2)
	case api.OFail:
		return fail(api.DivZero, 2)
	case api.OMemo:
		return api.Core{Op: op, N: 3}
	case api.OScale:
		return api.Core{Op: op, N: 1, M: 1000}
	}
	return api.Core{Op: op}
}

// whole answers a formed core of the operation.
func whole(op int) api.Core {
	c := head(op)
	switch op {
	case api.OLadder:
		c.Parts = []api.Core{rep, num(-1), hold, num(5), of(api.OTo, rep), of(api.OBy, num(1))}
	case api.ONot:
		c.Parts = []api.Core{sched(0)}
	case api.OAnd, api.OOr:
		c.Parts = []api.Core{no, sched(1)}
	case api.OIf:
		c.Parts = []api.Core{yes, num(1), win(1)}
	default:
		for i := range plainArity(op) {
			c.Parts = append(c.Parts, []api.Core{num(2500001), win(0)}[i])
		}
	}
	return c
}

// brief answers what x is, without the rest of a large one.
func brief(x any) string {
	text := fmt.Sprint(x)
	return text[:min(len(text), 300)]
}

func sortIs(t *testing.T, c api.Core, want int) {
	t.Helper()
	if got := Sort(c, wins3, crons2, locals4); got != want {
		t.Errorf("Sort(%s) = %d, wanted %d", brief(c), got, want)
	}
}

// signs answers the sign of each list of at most most sorts from 0 to 3, as takes has them.
func signs(most int) []string {
	list, last := []string{""}, []string{""}
	for range most {
		var longer []string
		for _, s := range last {
			for sort := range 4 {
				longer = append(longer, s+strconv.Itoa(sort))
			}
		}
		list, last = append(list, longer...), longer
	}
	return list
}

func TestP15_1SortOfEachOp(t *testing.T) {
	for op := api.ONum; op <= api.OLadder; op++ {
		want, _ := strconv.Atoi(takes()[op][0][len(takes()[op][0])-1:])
		sortIs(t, whole(op), want)
	}
	sortIs(t, fail(api.NoData, 1), 1)
	sortIs(t, memo(0, no), 2)
	sortIs(t, of(api.OEither, no, yes), 2)
	sortIs(t, of(api.OIf, no, yes, yes), 2)
}

func TestP15_1SortOfPartsOfEachSort(t *testing.T) {
	parts := samples()
	for sort, list := range parts {
		for _, c := range list {
			sortIs(t, c, sort)
		}
	}
	for op, may := range takes() {
		for _, sign := range signs(4) {
			want := 0
			for sort := 1; sort <= 3; sort++ {
				if slices.Contains(may, sign+">"+strconv.Itoa(sort)) {
					want = sort
				}
			}
			for turn := range 8 {
				c := head(op)
				for i, digit := range sign {
					list := parts[digit-'0']
					c.Parts = append(c.Parts, list[(turn+i)%len(list)])
				}
				if op == api.OLadder && len(sign) == 4 && c.Parts[1].Op != api.ONum {
					sortIs(t, c, 0)
					continue
				}
				sortIs(t, c, want)
			}
		}
	}
}

func TestP15_1SortOfAPartMoreOrLess(t *testing.T) {
	for op := api.ONum; op <= api.OLadder; op++ {
		c := whole(op)
		for i := range len(c.Parts) + 1 {
			for _, list := range samples() {
				for _, part := range list {
					longer := c
					longer.Parts = slices.Insert(slices.Clone(c.Parts), i, part)
					sortIs(t, longer, 0)
				}
			}
			if i < len(c.Parts) {
				shorter := c
				shorter.Parts = slices.Delete(slices.Clone(c.Parts), i, i+1)
				sortIs(t, shorter, 0)
			}
		}
		if len(c.Parts) > 0 {
			c.Parts = []api.Core{}
			sortIs(t, c, 0)
			c.Parts = nil
			sortIs(t, c, 0)
		}
	}
	sortIs(t, api.Core{Op: api.ORep, Parts: []api.Core{}}, 1)
	sortIs(t, api.Core{Op: api.OHold, Parts: []api.Core{}}, 3)
}

func TestP15_1SortOfNAndM(t *testing.T) {
	edges := []int64{math.MinInt64, -1 << 32, -4, -3, -2, -1, 0, 1, 2, 3, 4, 5, 6, 255, 256, 257, 1 << 31, 1 << 32, 1<<32 + 1, 1<<32 + 2, math.MaxInt64 - 1, math.MaxInt64}
	counts := []int{math.MinInt, -1 << 32, -256, -1, 0, 1, 2, 3, 256, 257, math.MaxInt}
	for op := api.ONum; op <= api.OLadder; op++ {
		c := whole(op)
		for _, c.N = range edges {
			for _, c.M = range edges {
				sortIs(t, c, plainSort(c, wins3, crons2, locals4))
			}
		}
		for _, c.N = range edges {
			c.M = whole(op).M
			for _, count := range counts {
				// One of the counts is asked, the others are such that they can't stand for it.
				for _, n := range [][3]int{{count, 2, 2}, {3, count, 3}, {2, 2, count}, {count, count, count}} {
					if got, want := Sort(c, n[0], n[1], n[2]), plainSort(c, n[0], n[1], n[2]); got != want {
						t.Errorf("Sort(%v, %v) = %d, wanted %d", c, n, got, want)
					}
				}
			}
		}
	}
}

func TestP15_1SortAtEachEnd(t *testing.T) {
	for _, x := range []struct {
		c    api.Core
		want int
	}{
		{num(math.MinInt64), 1}, {num(math.MaxInt64), 1}, {api.Core{Op: api.ONum, M: 1}, 0}, {api.Core{Op: api.ONum, M: -1}, 0},
		{no, 2}, {yes, 2}, {api.Core{Op: api.OBool, N: -1}, 0}, {api.Core{Op: api.OBool, N: 2}, 0}, {api.Core{Op: api.OBool, M: 1}, 0},
		{api.Core{Op: api.ORep, N: 1}, 0}, {api.Core{Op: api.ORep, M: 1}, 0}, {api.Core{Op: api.OHold, N: 1}, 0}, {api.Core{Op: api.OHold, M: -1}, 0},
		{win(-1), 0}, {win(0), 1}, {win(2), 1}, {win(3), 0}, {api.Core{Op: api.OWin, M: 1}, 0},
		{sched(-1), 0}, {sched(0), 2}, {sched(1), 2}, {sched(2), 0}, {api.Core{Op: api.OCron, M: 1}, 0},
		{fail(0, 1), 0}, {fail(1, 1), 1}, {fail(3, 2), 2}, {fail(4, 2), 0}, {fail(1, 0), 0}, {fail(1, 3), 0}, {fail(-1, 1), 0}, {fail(1, -1), 0},
		{memo(-1, yes), 0}, {memo(0, yes), 2}, {memo(3, rep), 1}, {memo(4, rep), 0}, {memo(0, hold), 0}, {api.Core{Op: api.OMemo, M: 1, Parts: []api.Core{rep}}, 0},
		{scaled(0, 1, rep), 1}, {scaled(-1, 1, rep), 0}, {scaled(0, 0, rep), 0}, {scaled(0, -1, rep), 0}, {scaled(math.MaxInt64, math.MaxInt64, rep), 1}, {scaled(1, 1, no), 0},
		{api.Core{Op: api.OAdd, N: 1, Parts: []api.Core{rep, rep}}, 0}, {api.Core{Op: api.OTo, M: 1, Parts: []api.Core{rep}}, 0}, {api.Core{Op: api.OLadder, N: 1, Parts: []api.Core{rep, hold}}, 0},
	} {
		sortIs(t, x.c, x.want)
	}
	for _, x := range []struct {
		c                         api.Core
		wins, crons, locals, want int
	}{
		{win(0), 0, 9, 9, 0}, {win(0), 1, 0, 0, 1}, {win(0), -1, 9, 9, 0}, {win(-1), math.MinInt, 9, 9, 0}, {win(0), math.MinInt, 9, 9, 0}, {win(math.MaxInt64), math.MaxInt, 9, 9, 0}, {win(math.MaxInt64 - 1), math.MaxInt, 0, 0, 1},
		{sched(0), 9, 0, 9, 0}, {sched(0), 0, 1, 0, 2}, {sched(0), 9, -1, 9, 0}, {sched(255), 0, 256, 0, 2}, {sched(256), 257, 256, 257, 0},
		{memo(0, rep), 9, 9, 0, 0}, {memo(0, rep), 0, 0, 1, 1}, {memo(0, yes), 9, 9, -1, 0}, {memo(255, yes), 0, 0, 256, 2}, {memo(256, yes), 257, 257, 256, 0}, {memo(1000, yes), 0, 0, 1001, 2},
		{of(api.OAdd, num(1), rep), -1, -1, -1, 1}, {of(api.OTo, win(4)), 4, 9, 9, 0}, {of(api.OTo, win(4)), 5, 0, 0, 3},
	} {
		if got := Sort(x.c, x.wins, x.crons, x.locals); got != x.want {
			t.Errorf("Sort(%v, %d, %d, %d) = %d, wanted %d", x.c, x.wins, x.crons, x.locals, got, x.want)
		}
	}
}

func TestP15_1SortOfOpsThatAreNone(t *testing.T) {
	for _, op := range []int{0, -1, -32, 33, 34, 64, 100, 256, 257, 1 << 32, 1<<32 + 1, math.MaxInt, math.MinInt} {
		for like := api.ONum; like <= api.OLadder; like++ {
			c := whole(like)
			c.Op = op
			sortIs(t, c, 0)
			sortIs(t, of(api.ONeg, c), 0)
			sortIs(t, of(api.ONot, c), 0)
			sortIs(t, of(api.OTo, c), 0)
			sortIs(t, of(api.OLadder, rep, c), 0)
			sortIs(t, memo(0, c), 0)
		}
	}
	sortIs(t, api.Core{}, 0)
}

// rungs answers a ladder with these bounds.
func rungs(bounds ...int64) api.Core {
	c := of(api.OLadder, rep)
	for i, bound := range bounds {
		c.Parts = append(c.Parts, num(bound), of(api.OTo, num(int64(i)*api.One)))
	}
	c.Parts = append(c.Parts, hold)
	return c
}

func TestP15_1SortOfLadders(t *testing.T) {
	many := make([]int64, 100000)
	for i := range many {
		many[i] = int64(i) - 50000
	}
	for _, bounds := range [][]int64{{}, {0}, {math.MinInt64}, {math.MaxInt64}, {math.MinInt64, math.MaxInt64}, {-2, -1, 0, 1, 2}, {1, 1 << 40}, many} {
		sortIs(t, rungs(bounds...), 3)
	}
	for _, bounds := range [][]int64{{5, 5}, {5, 4}, {1, 2, 2}, {1, 1, 2}, {1, 3, 2}, {2, 1, 3}, {math.MaxInt64, math.MinInt64}, {math.MinInt64, math.MinInt64}, {math.MaxInt64, math.MaxInt64}, {0, -1}, append(slices.Clone(many), 0), append(slices.Clone(many), 49999)} {
		sortIs(t, rungs(bounds...), 0)
	}
	pair := func(bound, act api.Core) api.Core { return of(api.OLadder, rep, num(1), hold, bound, act, hold) }
	sortIs(t, pair(num(2), hold), 3)
	sortIs(t, pair(num(2), rungs(7, 8)), 3)
	sortIs(t, pair(num(2), rungs(8, 7)), 0)
	for _, bound := range []api.Core{rep, of(api.ONeg, num(-2)), memo(0, num(2)), yes, hold, {}, {Op: api.ONum, N: 2, M: 1}, of(api.ONum, num(2)), scaled(1, 1, num(2)), fail(1, 1)} {
		sortIs(t, pair(bound, hold), 0)
	}
	for _, act := range []api.Core{rep, num(2), yes, {}, of(api.OTo, yes), of(api.OTo), of(api.OHold, num(1)), memo(0, num(2))} {
		sortIs(t, pair(num(2), act), 0)
		sortIs(t, of(api.OLadder, rep, act), 0)
		sortIs(t, of(api.OLadder, rep, num(1), hold, act), 0)
	}
	for _, first := range []api.Core{yes, hold, {}, of(api.OAdd, num(1)), rungs(1)} {
		sortIs(t, of(api.OLadder, first, hold), 0)
		sortIs(t, of(api.OLadder, first, num(1), hold, hold), 0)
	}
	// Pairs that are torn apart, or stand the other way round.
	for _, parts := range [][]api.Core{{}, {rep}, {hold}, {num(1)}, {rep, num(1), hold}, {rep, hold, hold}, {rep, num(1), num(2), hold, hold, hold}, {rep, hold, num(1), hold}, {rep, num(1), hold, hold, hold}, {rep, num(1), hold, num(2), hold}, {rep, num(1), num(2), hold}, {hold, num(1), hold, hold}, {num(1), hold, hold}, {rep, num(1)}} {
		sortIs(t, of(api.OLadder, parts...), 0)
	}
}

// deep answers a core of the operation, around itself as often as said, with the part c at the bottom; the other
// parts of each are rest.
func deep(op, times int, c api.Core, rest ...api.Core) api.Core {
	for range times {
		c = of(op, append([]api.Core{c}, rest...)...)
	}
	return c
}

// deepLast is the same with c as the last part.
func deepLast(op, times int, c api.Core, rest ...api.Core) api.Core {
	for range times {
		c = of(op, append(slices.Clone(rest), c)...)
	}
	return c
}

func TestP15_1SortOfDeepAndWideTrees(t *testing.T) {
	const far = 1<<16 - 1
	sortIs(t, deep(api.ONeg, far, rep), 1)
	sortIs(t, deep(api.ONeg, far, no), 0)
	sortIs(t, deep(api.ONot, far, no), 2)
	sortIs(t, deep(api.OEither, far, no, yes), 2)
	sortIs(t, deep(api.OEither, far, no, rep), 0)
	sortIs(t, deepLast(api.OEither, far, rep, zero), 1)
	sortIs(t, deepLast(api.OIf, far, rep, yes, num(1)), 1)
	sortIs(t, deepLast(api.OIf, far, hold, yes, num(1)), 0)
	sortIs(t, deepLast(api.OLadder, far, hold, rep, num(1), hold), 3)
	sortIs(t, deepLast(api.OLadder, far, rep, rep, num(1), hold), 0)
	sortIs(t, deep(0, far, rep), 0)
	for op := -1; op <= 34; op++ {
		sortIs(t, of(op, slices.Repeat([]api.Core{rep}, 1<<18)...), 0)
		sortIs(t, of(op, slices.Repeat([]api.Core{hold}, 1<<18)...), 0)
	}
	full := rep
	for range 18 {
		full = of(api.OMax, full, full)
	}
	sortIs(t, full, 1)
}
