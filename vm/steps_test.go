package vm

import (
	"slices"
	"testing"

	"capstan/api"
)

// leaves wants that p's run in v comes to the last instruction, with that on the stack.
func leaves(t *testing.T, p api.Program, v api.Env, want ...int64) {
	t.Helper()
	r, list := newRun(p, v), steps()
	for r.at < len(p.Code)-1 && !r.over {
		r.next(list)
	}
	if r.over || !slices.Equal(r.stack, want) {
		t.Errorf("%s in %s leaves %s, %v, wanted %s", brief(p), brief(v), brief(r.stack), r.says, brief(want))
	}
	raw, count, errno := Run(p, v)
	if says, plainCount := plainRun(t, p, v); raw != says || count != plainCount || errno != api.OK {
		t.Errorf("Run(%s, %s) = %v, %d, %d, wanted %v, %d", brief(p), brief(v), raw, count, errno, says, plainCount)
	}
}

// one wants that the operation makes that of the number.
func one(t *testing.T, op string, a, want int64) {
	t.Helper()
	leaves(t, bare("INum 0, "+op+", ITo", a), api.Env{}, want)
}

// two wants that the operation makes that of the numbers.
func two(t *testing.T, op string, a, b, want int64) {
	t.Helper()
	leaves(t, bare("INum 0, INum 1, "+op+", ITo", a, b), api.Env{}, want)
	// With others beneath.
	leaves(t, bare("INum 1, INum 0, INum 0, INum 1, "+op+", IAdd, IDrop, ITo", a, b), api.Env{}, b)
}

func TestP24_1WhatIsPutThere(t *testing.T) {
	for i, n := range []int64{500000, 1500000, 2500000, 3500000, 4500000} {
		p := full("INum 0, ITo")
		p.Code[0].A = int64(i)
		leaves(t, p, env(), n)
	}
	leaves(t, bare("INum 0, ITo", least), api.Env{}, least)
	leaves(t, bare("INum 1, ITo", 5, most), api.Env{}, most)
	for rep, want := range map[int64]int64{0: 0, 1: 1000000, -7: -7000000, 9223372036854: 9223372036854000000, 9223372036855: most, most: most, least: least} {
		leaves(t, full("IRep, ITo"), api.Env{Rep: rep, Wins: make([]api.Result, 3), Crons: make([]bool, 3)}, want)
	}
	leaves(t, full("IWin 0, ITo"), env(), 70000000)
	leaves(t, full("IWin 2, ITo"), env(), 90000000)
	leaves(t, full("ICron 0, ITo"), env(), 0)
	leaves(t, full("ICron 1, ITo"), env(), 1)
	leaves(t, full("ICron 2, ITo"), env(), 0)
	leaves(t, full("INum 4, IRep, IWin 2, ICron 1, ISub, ISub, ISub, ITo"), env(), 4500000-(6000000-(90000000-1)))
}

// A reason of the Env's is whatever number it is, but 0; the number beside it doesn't matter.
func TestP24_1ReasonsOfWindows(t *testing.T) {
	for _, reason := range []api.Reason{1, 2, 3, 4, 5, 6, 7, 99, -1, most, least} {
		v := env()
		v.Wins[0] = api.Result{Reason: reason, N: 5000000}
		runs(t, full("IWin 0, ITo"), v, holds(reason), 1)
		runs(t, full("IRep, IRep, IWin 0, IAdd, IAdd, IBy"), v, holds(reason), 3)
		runs(t, full("ITry 3, IWin 0, IDone 4, INum 1, ITo"), v, wants(2), 4)
	}
	v := env()
	v.Wins[0] = api.Result{N: least}
	leaves(t, full("IWin 0, ITo"), v, least)
}

func TestP24_1Fail(t *testing.T) {
	for reason := api.NoData; reason <= api.Taint; reason++ {
		p := full("IFail 0, ITo")
		p.Code[0].A = int64(reason)
		runs(t, p, env(), holds(reason), 1)
	}
	runs(t, full("INum 0, IFail 3, IAdd, ITo"), env(), holds(api.Taint), 2)
}

func TestP24_1OnOne(t *testing.T) {
	for _, x := range []struct {
		op      string
		a, want int64
	}{
		{"INeg", 5, -5}, {"INeg", -1500000, 1500000}, {"INeg", 0, 0}, {"INeg", least, most}, {"INeg", most, least + 1},
		{"INot", 0, 1}, {"INot", 1, 0}, {"INot", 2, 0}, {"INot", -1, 0}, {"INot", 1000000, 0}, {"INot", most, 0}, {"INot", least, 0},
		{"IAbs", 5, 5}, {"IAbs", -5, 5}, {"IAbs", 0, 0}, {"IAbs", least, most}, {"IAbs", most, most},
		{"ICeil", 1, 1000000}, {"ICeil", -1, 0}, {"ICeil", -1000001, -1000000}, {"ICeil", 2000000, 2000000}, {"ICeil", most, most},
		{"IFloor", 1, 0}, {"IFloor", -1, -1000000}, {"IFloor", 1999999, 1000000}, {"IFloor", 2000000, 2000000}, {"IFloor", least, least},
	} {
		one(t, x.op, x.a, x.want)
	}
}

func TestP24_1Scale(t *testing.T) {
	for _, x := range []struct{ a, num, den, want int64 }{
		{7, 1, 2, 3}, {-7, 1, 2, -4}, {7, 0, 9, 0}, {5, 3, 1, 15}, {most, 2, 1, most}, {least, 2, 1, least}, {most, most, most, most}, {1000, 1, 1000, 1}, {-1, 1, 1000, -1},
	} {
		leaves(t, bare("INum 0, IScale 1, ITo", x.a, x.num, x.den), api.Env{}, x.want)
		leaves(t, bare("INum 2, IScale 0, ITo", x.num, x.den, x.a), api.Env{}, x.want)
	}
}

func TestP24_1OnTwo(t *testing.T) {
	for _, x := range []struct {
		op         string
		a, b, want int64
	}{
		{"IAdd", 5, 7, 12}, {"IAdd", most, 1, most}, {"IAdd", least, -1, least}, {"IAdd", most, least, -1},
		{"ISub", 5, 7, -2}, {"ISub", 7, 5, 2}, {"ISub", least, 1, least}, {"ISub", 0, least, most},
		{"IMul", 1500000, -1, -2}, {"IMul", 2000000, 3000000, 6000000}, {"IMul", 1 << 62, 2000000, most}, {"IMul", -1 << 62, 3000000, least},
		{"IDiv", 1, 3000000, 0}, {"IDiv", -1, 3000000, -1}, {"IDiv", 3000000, 2000000, 1500000}, {"IDiv", 2000000, -3000000, -666667}, {"IDiv", most, 1, most}, {"IDiv", 0, 5, 0},
		{"IMin2", 5, 7, 5}, {"IMin2", 7, 5, 5}, {"IMin2", least, most, least}, {"IMin2", 3, 3, 3},
		{"IMax2", 5, 7, 7}, {"IMax2", 7, 5, 7}, {"IMax2", least, most, most}, {"IMax2", -3, -3, -3},
	} {
		two(t, x.op, x.a, x.b, x.want)
	}
}

func TestP24_1Compares(t *testing.T) {
	for _, x := range []struct{ a, b, less, leq, eq, more, meq int64 }{
		{5, 7, 1, 1, 0, 0, 0}, {7, 5, 0, 0, 0, 1, 1}, {5, 5, 0, 1, 1, 0, 1}, {-1, 0, 1, 1, 0, 0, 0}, {least, most, 1, 1, 0, 0, 0}, {most, least, 0, 0, 0, 1, 1}, {least, least, 0, 1, 1, 0, 1},
	} {
		two(t, "ILess", x.a, x.b, x.less)
		two(t, "ILeq", x.a, x.b, x.leq)
		two(t, "IEq", x.a, x.b, x.eq)
		two(t, "IMore", x.a, x.b, x.more)
		two(t, "IMeq", x.a, x.b, x.meq)
	}
}

// Each operation on the ends, around 0 and around 1, held against what a core comes to.
func TestP24_1AllNumbers(t *testing.T) {
	edges := []int64{least, least + 1, -3000000, -1000001, -1000000, -999999, -2, -1, 0, 1, 2, 3, 499999, 999999, 1000000, 1000001, 1 << 40, 1<<62 - 1, most - 1, most}
	for op := api.INeg; op <= api.IMax2; op++ {
		for _, a := range edges {
			for _, b := range edges {
				p := bare("INum 0, INum 1, IDrop, ITo", a, b)
				if op == api.IScale && (a < 0 || b < 1) {
					continue
				}
				p.Code[2].Op = op
				if op < api.IAdd {
					p.Code = append(p.Code[:3:3], instructions("IDrop, ITo")...)
				}
				says, count := plainRun(t, p, api.Env{})
				runs(t, p, api.Env{}, says, count)
				// The number itself, not only the count that is asked for.
				for _, bound := range []int64{-1000000, -1, 0, 1, 1000000} {
					q := bare("INum 0, INum 1, IDrop, INum 2, ILess, IBy", a, b, bound)
					q.Code[2] = p.Code[2]
					if op < api.IAdd {
						q.Code = slices.Insert(q.Code, 5, instructions("IAdd")...)
					}
					says, count := plainRun(t, q, api.Env{})
					runs(t, q, api.Env{}, says, count)
				}
			}
		}
	}
}

func TestP24_1DivByZero(t *testing.T) {
	for _, n := range []int64{0, 1, -1, 1000000, most, least} {
		runs(t, bare("INum 0, INum 1, IDiv, ITo", n, 0), api.Env{}, holds(api.DivZero), 3)
		runs(t, bare("ITry 3, INum 0, IDone 4, INum 1, INum 1, IDiv, ITo", n, 0), api.Env{Rep: 3}, holds(api.DivZero), 5)
		runs(t, bare("IRep, ITry 6, INum 0, INum 1, IDiv, IDone 7, INum 2, IAdd, ITo", n, 0, 5000000), api.Env{Rep: 3}, wants(8), 8)
	}
}

func TestP24_1Jumps(t *testing.T) {
	runs(t, bare("IJump 1, IHold"), api.Env{}, holds(api.Asked), 2)
	runs(t, bare("IRep, IRep, IZero 4, IJump 5, INeg, ITo"), api.Env{Rep: 3}, wants(3), 5)
	runs(t, bare("INum 0, IZero 3, IHold, IRep, ITo", 0), api.Env{Rep: 3}, wants(3), 4)
	for _, n := range []int64{1, -1, 2, 1000000, most, least} {
		runs(t, bare("INum 0, IZero 3, IHold, IRep, ITo", n), api.Env{Rep: 3}, holds(api.Asked), 3)
	}
	// What is asked for is taken, either way.
	leaves(t, bare("IRep, INum 0, IZero 3, ITo", 0), api.Env{Rep: 3}, 3000000)
	leaves(t, bare("IRep, INum 0, IZero 3, ITo", 7), api.Env{Rep: 3}, 3000000)
}

func TestP24_1CopyAndDrop(t *testing.T) {
	leaves(t, full("INum 0, INum 1, ICopy, IDrop, ISub, ITo"), env(), -1000000)
	leaves(t, full("INum 0, INum 1, ICopy, IAdd, ISub, ITo"), env(), -2500000)
	leaves(t, full("INum 0, INum 1, IDrop, ITo"), env(), 500000)
	leaves(t, full("INum 3, ICopy, INeg, IAdd, ITo"), env(), 0)
	leaves(t, full("INum 3, ICopy, IDrop, ICopy, IDrop, ITo"), env(), 3500000)
}

func TestP24_1Ends(t *testing.T) {
	for n, want := range map[int64]int64{0: 0, 1: 1, 1000000: 1, 1000001: 2, -1: 0, -1000000: -1, -1000001: -1, most: 9223372036854, least: -9223372036854} {
		for _, rep := range []int64{0, 3, -3, 9} {
			runs(t, bare("INum 0, ITo", n), api.Env{Rep: rep}, wants(want), 2)
			runs(t, bare("INum 0, IBy", n), api.Env{Rep: rep}, wants(rep+want), 2)
		}
	}
	runs(t, bare("INum 0, IBy", 1), api.Env{Rep: most}, wants(most), 2)
	runs(t, bare("INum 0, IBy", -1000000), api.Env{Rep: least}, wants(least), 2)
	runs(t, bare("INum 0, IBy", -1000000), api.Env{Rep: most}, wants(most-1), 2)
	runs(t, bare("IRep, IBy"), api.Env{Rep: most}, wants(most), 2)
	runs(t, bare("IRep, IZero 3, IHold, IHold"), api.Env{Rep: 1}, holds(api.Asked), 3)
	// An end is one, whatever stands behind it.
	runs(t, full("ICron 0, IZero 3, IHold, IRep, ITo"), env(), wants(6), 4)
	runs(t, full("ICron 1, IZero 3, IHold, IRep, ITo"), env(), holds(api.Asked), 3)
	runs(t, full("ICron 1, IZero 4, INum 4, ITo, IRep, IBy"), env(), wants(5), 4)
}
