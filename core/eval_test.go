package core

import (
	"math"
	"slices"
	"testing"

	"capstan/api"
)

const (
	most  = math.MaxInt64
	least = math.MinInt64
)

// env answers an Env with windows of each kind, and schedules that name the moment and do not.
func env() api.Env {
	return api.Env{
		Rep:   3,
		Wins:  []api.Result{{N: 5}, {Reason: api.NoData, N: 9}, {Reason: api.DivZero}, {Reason: api.Taint, N: -1}, {N: most}, {N: least}, {Reason: 77, N: 7}, {Reason: -1}},
		Crons: []bool{true, false},
	}
}

func evalIs(t *testing.T, c api.Core, v api.Env, want api.Result) {
	t.Helper()
	if got, errno := Eval(c, v); got != want || errno != api.OK {
		t.Errorf("Eval(%s) = %v, %d, wanted %v", brief(c), got, errno, want)
	}
}

func comesTo(t *testing.T, c api.Core, n int64) {
	t.Helper()
	evalIs(t, c, env(), api.Result{N: n})
}

func lacks(t *testing.T, c api.Core, reason api.Reason) {
	t.Helper()
	evalIs(t, c, env(), api.Result{Reason: reason})
}

func noEval(t *testing.T, c api.Core, v api.Env) {
	t.Helper()
	if got, errno := Eval(c, v); got != (api.Result{}) || errno != api.ErrForm {
		t.Errorf("Eval(%s) = %v, %d, wanted ErrForm", brief(c), got, errno)
	}
}

func TestP15_2Examples(t *testing.T) {
	comesTo(t, of(api.OAdd, rep, num(500000)), 3500000)
	lacks(t, zero, api.DivZero)
	comesTo(t, of(api.OEither, zero, num(7)), 7)
	for _, second := range samples()[2] {
		comesTo(t, of(api.OAnd, no, second), 0)
	}
}

func TestP15_2Leaves(t *testing.T) {
	for _, n := range []int64{0, 1, -1, 1000000, most, least} {
		comesTo(t, num(n), n)
	}
	comesTo(t, no, 0)
	comesTo(t, yes, 1)
	for count, want := range map[int64]int64{0: 0, 3: 3000000, -2: -2000000, 9223372036854: 9223372036854000000, 9223372036855: most, -9223372036854: -9223372036854000000, -9223372036855: least, most: most, least: least} {
		evalIs(t, rep, api.Env{Rep: count}, api.Result{N: want})
	}
	for i, told := range env().Wins {
		want := told
		if told.Reason != api.Fine {
			want.N = 0
		}
		evalIs(t, win(int64(i)), env(), want)
	}
	for reason := api.Reason(-10); reason <= 10; reason++ {
		if reason != api.Fine {
			evalIs(t, win(0), api.Env{Wins: []api.Result{{Reason: reason, N: 5}}}, api.Result{Reason: reason})
		}
	}
	evalIs(t, win(0), api.Env{Wins: []api.Result{{Reason: math.MaxInt, N: 5}}}, api.Result{Reason: math.MaxInt})
	comesTo(t, sched(0), 1)
	comesTo(t, sched(1), 0)
	for reason := api.NoData; reason <= api.Taint; reason++ {
		lacks(t, fail(reason, 1), reason)
		lacks(t, fail(reason, 2), reason)
	}
	comesTo(t, memo(0, num(4)), 4)
	comesTo(t, memo(255, yes), 1)
	lacks(t, memo(255, zero), api.DivZero)
	// Here the parts of memos with one N need not be the same.
	comesTo(t, of(api.OAdd, memo(1, num(4)), memo(1, num(5))), 9)
}

func TestP15_2OfOnePart(t *testing.T) {
	for _, x := range []struct {
		op        int
		a, result int64
	}{
		{api.ONeg, 5, -5}, {api.ONeg, -5, 5}, {api.ONeg, 0, 0}, {api.ONeg, most, least + 1}, {api.ONeg, least, most},
		{api.OAbs, 5, 5}, {api.OAbs, -5, 5}, {api.OAbs, most, most}, {api.OAbs, least, most}, {api.OAbs, least + 1, most},
		{api.OCeil, 1, 1000000}, {api.OCeil, -1, 0}, {api.OCeil, 2000000, 2000000}, {api.OCeil, -1999999, -1000000}, {api.OCeil, most, most}, {api.OCeil, least, -9223372036854000000},
		{api.OFloor, 1, 0}, {api.OFloor, -1, -1000000}, {api.OFloor, 2000000, 2000000}, {api.OFloor, 1999999, 1000000}, {api.OFloor, most, 9223372036854000000}, {api.OFloor, least, least},
	} {
		comesTo(t, of(x.op, num(x.a)), x.result)
	}
	comesTo(t, of(api.ONot, no), 1)
	comesTo(t, of(api.ONot, yes), 0)
	comesTo(t, of(api.ONot, sched(0)), 0)
	for _, x := range []struct{ a, n, m, result int64 }{
		{7, 1, 2, 3}, {-7, 1, 2, -4}, {7, 2, 1, 14}, {7, 0, 1, 0}, {5, 1, 1000, 0}, {-5, 1, 1000, -1}, {most, 2, 1, most}, {least, 2, 1, least}, {most, most, most, most}, {least, most, most, least}, {most, 1, most, 1}, {least, 1, most, -2},
	} {
		comesTo(t, scaled(x.n, x.m, num(x.a)), x.result)
	}
}

func TestP15_2OfTwoParts(t *testing.T) {
	for _, x := range []struct {
		op           int
		a, b, result int64
	}{
		{api.OAdd, 5, 3, 8}, {api.OAdd, most, 1, most}, {api.OAdd, least, -1, least}, {api.OAdd, most, least, -1},
		{api.OSub, 5, 3, 2}, {api.OSub, 3, 5, -2}, {api.OSub, least, 1, least}, {api.OSub, most, -1, most}, {api.OSub, 0, least, most}, {api.OSub, least, most, least},
		{api.OMul, 2000000, 3000000, 6000000}, {api.OMul, 1500000, -1, -2}, {api.OMul, most, most, most}, {api.OMul, most, least, least}, {api.OMul, least, least, most}, {api.OMul, 1, 1, 0},
		{api.ODiv, 6000000, 2000000, 3000000}, {api.ODiv, 2000000, 6000000, 333333}, {api.ODiv, -1, 3000000, -1}, {api.ODiv, 1, 3000000, 0}, {api.ODiv, most, 1, most}, {api.ODiv, least, 1, least}, {api.ODiv, least, -1, most}, {api.ODiv, 0, 5, 0}, {api.ODiv, least, least, 1000000},
		{api.OMin, 3, 5, 3}, {api.OMin, 5, 3, 3}, {api.OMin, most, least, least}, {api.OMin, -1, -1, -1}, {api.OMax, 3, 5, 5}, {api.OMax, 5, 3, 5}, {api.OMax, most, least, most}, {api.OMax, -1, -1, -1},
	} {
		comesTo(t, of(x.op, num(x.a), num(x.b)), x.result)
	}
	for _, x := range [][2]int64{{0, 0}, {1, 1}, {-1, -1}, {most, most}, {least, least}} {
		for op, want := range map[int]int64{api.OLess: 0, api.OLeq: 1, api.OEq: 1, api.OMore: 0, api.OMeq: 1} {
			comesTo(t, of(op, num(x[0]), num(x[1])), want)
		}
	}
	for _, x := range [][2]int64{{0, 1}, {-1, 0}, {-1, 1}, {least, most}, {least, 0}, {least, 1}, {-1, most}, {most - 1, most}, {least, least + 1}, {0, 1 << 32}} {
		for op, want := range map[int]int64{api.OLess: 1, api.OLeq: 1, api.OEq: 0, api.OMore: 0, api.OMeq: 0} {
			comesTo(t, of(op, num(x[0]), num(x[1])), want)
		}
		for op, want := range map[int]int64{api.OLess: 0, api.OLeq: 0, api.OEq: 0, api.OMore: 1, api.OMeq: 1} {
			comesTo(t, of(op, num(x[1]), num(x[0])), want)
		}
	}
	for _, a := range []int64{0, 1, -1, most, least} {
		lacks(t, of(api.ODiv, num(a), num(0)), api.DivZero)
	}
}

func TestP15_2OfTruths(t *testing.T) {
	truths := []api.Core{no, yes}
	for a := range int64(2) {
		for b := range int64(2) {
			comesTo(t, of(api.OAnd, truths[a], truths[b]), a*b)
			comesTo(t, of(api.OOr, truths[a], truths[b]), a+b-a*b)
			comesTo(t, of(api.OEither, truths[a], truths[b]), a)
			comesTo(t, of(api.OIf, truths[a], truths[b], truthIs(1-b)), []int64{1 - b, b}[a])
		}
		comesTo(t, of(api.OIf, truths[a], num(50), num(60)), []int64{60, 50}[a])
		lacks(t, of(api.OAnd, fail(api.Taint, 2), truths[a]), api.Taint)
		lacks(t, of(api.OOr, fail(api.Taint, 2), truths[a]), api.Taint)
		comesTo(t, of(api.OEither, fail(api.Taint, 2), truths[a]), a)
	}
}

// truthIs answers the truth n.
func truthIs(n int64) api.Core {
	return api.Core{Op: api.OBool, N: n}
}

// lacking answers cores of the sort that come to the reason.
func lacking(reason api.Reason, sort int64) []api.Core {
	number := []api.Core{fail(reason, 1), win(int64(reason)), of(api.OAdd, num(1), fail(reason, 1)), memo(9, of(api.ONeg, win(int64(reason)))), of(api.OIf, no, num(1), fail(reason, 1))}
	if reason == api.DivZero {
		number = append(number, zero)
	}
	if sort == 1 {
		return number
	}
	truths := []api.Core{fail(reason, 2), of(api.OAnd, yes, fail(reason, 2))}
	for _, c := range number {
		truths = append(truths, of(api.OLeq, c, num(1)))
	}
	return truths
}

func TestP15_2ReasonsInPartsThatAreAsked(t *testing.T) {
	reasons := []api.Reason{api.NoData, api.DivZero, api.Taint}
	for _, r := range reasons {
		for _, part := range lacking(r, 1) {
			lacks(t, part, r)
			for _, op := range []int{api.ONeg, api.OAbs, api.OCeil, api.OFloor, api.OMemo} {
				lacks(t, of(op, part), r)
			}
			lacks(t, scaled(0, 1, part), r)
			for op := api.OAdd; op <= api.OMax; op++ {
				lacks(t, of(op, part, num(0)), r)
				lacks(t, of(op, num(0), part), r)
				lacks(t, of(op, num(1), part), r)
				for _, other := range reasons { // the first one is told
					for _, second := range lacking(other, 1) {
						lacks(t, of(op, part, second), r)
					}
				}
			}
			lacks(t, of(api.OIf, yes, part, num(1)), r)
			lacks(t, of(api.OIf, no, num(1), part), r)
		}
		for _, part := range lacking(r, 2) {
			lacks(t, part, r)
			lacks(t, of(api.ONot, part), r)
			lacks(t, memo(0, part), r)
			lacks(t, of(api.OIf, part, num(1), num(1)), r)
			lacks(t, of(api.OIf, part, yes, fail(api.Reason(4-r), 2)), r)
			for _, second := range []api.Core{no, yes, fail(api.Reason(4-r), 2)} {
				lacks(t, of(api.OAnd, part, second), r)
				lacks(t, of(api.OOr, part, second), r)
			}
			lacks(t, of(api.OAnd, yes, part), r)
			lacks(t, of(api.OOr, no, part), r)
		}
	}
}

func TestP15_2ReasonsInPartsThatAreNotAsked(t *testing.T) {
	for _, r := range []api.Reason{api.NoData, api.DivZero, api.Taint} {
		for _, part := range lacking(r, 1) {
			comesTo(t, of(api.OIf, no, part, num(8)), 8)
			comesTo(t, of(api.OIf, yes, num(8), part), 8)
			comesTo(t, of(api.OEither, num(8), part), 8)
			comesTo(t, of(api.OEither, num(0), part), 0)
			comesTo(t, of(api.OEither, part, num(8)), 8)
			comesTo(t, of(api.OAdd, num(1), of(api.OEither, of(api.OMul, part, rep), num(8))), 9)
			for _, other := range []api.Reason{api.NoData, api.DivZero, api.Taint} {
				lacks(t, of(api.OEither, part, fail(other, 1)), other) // of two reasons the second
				comesTo(t, of(api.OEither, part, of(api.OEither, fail(other, 1), num(8))), 8)
				comesTo(t, of(api.OEither, of(api.OEither, part, fail(other, 1)), num(8)), 8)
			}
		}
		for _, part := range lacking(r, 2) {
			comesTo(t, of(api.OAnd, no, part), 0)
			comesTo(t, of(api.OOr, yes, part), 1)
			comesTo(t, of(api.OEither, part, yes), 1)
			comesTo(t, of(api.OEither, part, no), 0)
			comesTo(t, of(api.OEither, no, part), 0)
			comesTo(t, of(api.OIf, yes, yes, part), 1)
			comesTo(t, of(api.OIf, no, part, yes), 1)
		}
	}
	// Reasons that only an Env has go the same ways.
	lacks(t, of(api.OAdd, win(6), win(7)), 77)
	lacks(t, of(api.OAdd, win(7), win(6)), -1)
	comesTo(t, of(api.OEither, win(6), num(8)), 8)
	lacks(t, of(api.OEither, win(6), win(7)), -1)
}

func TestP15_2NotFormed(t *testing.T) {
	for sort, list := range samples() {
		for _, c := range list {
			if sort == 0 || sort == 3 {
				noEval(t, c, env())
				noEval(t, of(api.OEither, num(1), c), env())
				noEval(t, of(api.OIf, yes, num(1), c), env()) // though it wouldn't be asked
				noEval(t, of(api.OAnd, no, c), env())
			}
		}
	}
	v := api.Env{Rep: 1, Wins: make([]api.Result, 2), Crons: make([]bool, 3)}
	evalIs(t, win(1), v, api.Result{})
	noEval(t, win(2), v)
	noEval(t, win(-1), v)
	evalIs(t, sched(2), v, api.Result{})
	noEval(t, sched(3), v)
	noEval(t, win(0), api.Env{})
	noEval(t, sched(0), api.Env{})
	noEval(t, of(api.OOr, yes, sched(3)), v)
	// There are MaxLocals locals.
	evalIs(t, memo(255, rep), v, api.Result{N: 1000000})
	noEval(t, memo(256, rep), v)
	noEval(t, memo(-1, rep), v)
	for _, op := range []int{0, -1, 33, math.MaxInt, math.MinInt, 1<<32 + 1} {
		noEval(t, of(op), v)
		noEval(t, of(op, num(1), num(2)), v)
	}
}

func TestP15_2DeepAndWideTrees(t *testing.T) {
	const far = 1<<16 - 2
	comesTo(t, deep(api.ONeg, far, num(5)), 5)
	comesTo(t, deep(api.OAdd, far, num(5), num(1)), far+5)
	comesTo(t, deepLast(api.OSub, far, num(5), num(0)), 5)
	comesTo(t, deepLast(api.OAnd, far, no, yes), 0)
	comesTo(t, deepLast(api.OOr, far, yes, no), 1)
	comesTo(t, deepLast(api.OIf, far, num(9), no, num(1)), 9)
	lacks(t, deep(api.OMax, far, fail(api.Taint, 1), rep), api.Taint)
	comesTo(t, deepLast(api.OEither, far, num(6), zero), 6)
	comesTo(t, deep(api.OEither, far, num(6), zero), 6)
	lacks(t, deep(api.OEither, far, zero, win(1)), api.NoData)
	comesTo(t, doubled(17, num(1)), 1<<17) // far more nodes than MaxCore
	noEval(t, deep(0, far, num(1)), env())
	noEval(t, deep(api.ONeg, far, no), env())
	for op := -1; op <= 34; op++ {
		noEval(t, of(op, slices.Repeat([]api.Core{yes}, 1<<16)...), env())
	}
	wide := api.Env{Rep: 2, Wins: make([]api.Result, 1<<16), Crons: make([]bool, 1<<16)}
	wide.Wins[1<<16-1].N, wide.Crons[1<<16-1] = 4, true
	evalIs(t, win(1<<16-1), wide, api.Result{N: 4})
	evalIs(t, sched(1<<16-1), wide, api.Result{N: 1})
	noEval(t, win(1<<16), wide)
}
