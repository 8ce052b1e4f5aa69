package share

import (
	"fmt"
	"math"
	"reflect"
	"testing"

	"capstan/api"
	"capstan/core"
)

const (
	most  = math.MaxInt64
	least = math.MinInt64
)

func num(n int64) api.Core {
	return api.Core{Op: api.ONum, N: n}
}

func of(op int, parts ...api.Core) api.Core {
	return api.Core{Op: op, Parts: parts}
}

func fail(reason, sort int64) api.Core {
	return api.Core{Op: api.OFail, N: reason, M: sort}
}

func memo(n int64, part api.Core) api.Core {
	return api.Core{Op: api.OMemo, N: n, Parts: []api.Core{part}}
}

func scaled(n, m int64, part api.Core) api.Core {
	return api.Core{Op: api.OScale, N: n, M: m, Parts: []api.Core{part}}
}

func win(n int64) api.Core {
	return api.Core{Op: api.OWin, N: n}
}

func sched(n int64) api.Core {
	return api.Core{Op: api.OCron, N: n}
}

func plus(a, b api.Core) api.Core {
	return of(api.OAdd, a, b)
}

func neg(c api.Core) api.Core {
	return of(api.ONeg, c)
}

func to(c api.Core) api.Core {
	return of(api.OTo, c)
}

func by(c api.Core) api.Core {
	return of(api.OBy, c)
}

func ladder(parts ...api.Core) api.Core {
	return of(api.OLadder, parts...)
}

func guard(when, then api.Core) api.Guard {
	return api.Guard{When: when, Then: then}
}

var (
	no   = api.Core{Op: api.OBool}
	yes  = api.Core{Op: api.OBool, N: 1}
	rep  = api.Core{Op: api.ORep}
	hold = api.Core{Op: api.OHold}
)

var daily = api.Cron{Minute: 1, Hour: 1, Day: 1<<32 - 2, Month: 1<<13 - 2, Week: 1<<7 - 1}

// seconds answers a window over so many seconds.
func seconds(n int64) api.Win {
	return api.Win{Agg: api.ASum, Span: n}
}

// minutely answers a schedule of its own for each number below 1440.
func minutely(n int) api.Cron {
	c := daily
	c.Minute, c.Hour = 1<<(n%60), 1<<(n/60)
	return c
}

// simple answers a plan of the guards and the action, with the windows over 1, 2, .., 9 seconds and nine schedules.
func simple(final api.Core, guards ...api.Guard) api.Plan {
	p := api.Plan{Metrics: []string{"m"}, Rules: api.Rules{Max: 1, Step: 1}, Guards: guards, Final: final}
	for i := range 9 {
		p.Wins = append(p.Wins, seconds(int64(i)+1))
		p.Crons = append(p.Crons, minutely(i))
	}
	return p
}

// with answers p with that many locals.
func with(locals int, p api.Plan) api.Plan {
	p.Locals = locals
	return p
}

// brief answers what x is, without the rest of a large one.
func brief(x any) string {
	text := fmt.Sprint(x)
	return text[:min(len(text), 1000)]
}

// sameList answers whether both are the same; lists without elements are alike.
func sameList[T any](a, b []T) bool {
	return len(a)+len(b) == 0 || reflect.DeepEqual(a, b)
}

// samePlan answers whether both are the same plan; lists without elements are alike.
func samePlan(a, b api.Plan) bool {
	if len(a.Guards) != len(b.Guards) || !core.Same(a.Final, b.Final) {
		return false
	}
	for i, g := range a.Guards {
		if !core.Same(g.When, b.Guards[i].When) || !core.Same(g.Then, b.Guards[i].Then) {
			return false
		}
	}
	return a.Rules == b.Rules && a.Locals == b.Locals && sameList(a.Metrics, b.Metrics) && sameList(a.Wins, b.Wins) && sameList(a.Crons, b.Crons)
}

// becomes wants that p is shared to want, and that this is formed.
func becomes(t *testing.T, p, want api.Plan) {
	t.Helper()
	got, errno := Plan(p)
	if !samePlan(got, want) || errno != api.OK {
		t.Errorf("Plan(%s) = %s, %d, wanted %s", brief(p), brief(got), errno, brief(want))
	}
	if !core.Formed(got) {
		t.Errorf("Plan(%s) = %s, which isn't formed", brief(p), brief(got))
	}
}

func stays(t *testing.T, p api.Plan) {
	t.Helper()
	becomes(t, p, p)
}

func noPlan(t *testing.T, p api.Plan, why api.Errno) {
	t.Helper()
	if got, errno := Plan(p); !samePlan(got, api.Plan{}) || errno != why {
		t.Errorf("Plan(%s) = %s, %d, wanted %d", brief(p), brief(got), errno, why)
	}
}

func TestP20_1Examples(t *testing.T) {
	w, v := seconds(1), seconds(2)
	p := simple(to(win(2)))
	p.Wins = []api.Win{w, v, w}
	want := simple(to(win(0)))
	want.Wins = []api.Win{w, v}
	becomes(t, p, want)
	more := plus(win(0), num(1))
	becomes(t, simple(to(more), guard(of(api.OLess, more, win(1)), hold)), with(1, simple(to(memo(0, more)), guard(of(api.OLess, memo(0, more), win(1)), hold))))
	square := of(api.OMul, more, more)
	becomes(t, simple(to(square), guard(of(api.OLess, square, num(9)), hold)), with(1, simple(to(memo(0, square)), guard(of(api.OLess, memo(0, square), num(9)), hold))))
	becomes(t, simple(to(square), guard(of(api.OLess, square, num(9)), to(more))), with(2, simple(to(memo(0, square)), guard(of(api.OLess, memo(0, square), num(9)), to(memo(1, more))))))
}

// numbers answers cores of sort 1 that have parts, one of each operation at least, no two of them the same and none within
// another.
func numbers() []api.Core {
	list := []api.Core{scaled(0, 1, rep), scaled(1, 1, rep), scaled(1, 2, rep), scaled(most, most, rep), of(api.OIf, sched(0), num(1), num(2)), of(api.OIf, sched(1), num(1), num(2)), of(api.OEither, win(0), num(1)), of(api.OEither, fail(1, 1), rep)}
	for _, op := range []int{api.ONeg, api.OAbs, api.OCeil, api.OFloor} {
		list = append(list, of(op, rep), of(op, num(7)), of(op, num(-7)), of(op, win(1)), of(op, win(2)), of(op, fail(1, 1)), of(op, fail(2, 1)))
	}
	for _, op := range []int{api.OAdd, api.OSub, api.OMul, api.ODiv, api.OMin, api.OMax} {
		list = append(list, of(op, rep, win(0)), of(op, win(0), rep), of(op, win(0), win(0)), of(op, num(1), num(11)), of(op, num(11), num(1)), of(op, num(most), num(least)))
	}
	return list
}

// truths answers cores of sort 2 likewise.
func truths() []api.Core {
	list := []api.Core{of(api.ONot, sched(0)), of(api.ONot, sched(1)), of(api.ONot, no), of(api.ONot, yes), of(api.OIf, no, sched(0), yes), of(api.OIf, no, sched(1), yes), of(api.OEither, fail(1, 2), yes), of(api.OEither, fail(2, 2), yes), of(api.OEither, sched(1), no)}
	for op := api.OLess; op <= api.OMeq; op++ {
		list = append(list, of(op, rep, win(0)), of(op, win(0), rep), of(op, rep, rep), of(op, num(1), num(2)))
	}
	for _, op := range []int{api.OAnd, api.OOr} {
		list = append(list, of(op, sched(0), sched(1)), of(op, sched(1), sched(0)), of(op, yes, no))
	}
	return list
}

func TestP20_1EveryOperation(t *testing.T) {
	for _, c := range numbers() {
		stays(t, simple(to(c)))
		becomes(t, simple(to(plus(c, c))), with(1, simple(to(plus(memo(0, c), memo(0, c))))))
		becomes(t, simple(to(c), guard(sched(0), by(c))), with(1, simple(to(memo(0, c)), guard(sched(0), by(memo(0, c))))))
	}
	for _, c := range truths() {
		stays(t, simple(hold, guard(c, hold)))
		becomes(t, simple(hold, guard(of(api.OAnd, c, c), hold)), with(1, simple(hold, guard(of(api.OAnd, memo(0, c), memo(0, c)), hold))))
		becomes(t, simple(hold, guard(c, hold), guard(c, hold)), with(1, simple(hold, guard(memo(0, c), hold), guard(memo(0, c), hold))))
	}
}

// Cores are the same only if they are so in every field.
func TestP20_1CoresThatAreNotAlike(t *testing.T) {
	list := append(numbers(), scaled(2, 1, rep), scaled(1, 12, rep), scaled(11, 2, rep), scaled(1, 1, num(1)), scaled(1, 1, win(1)), of(api.OIf, no, num(1), num(2)), of(api.OIf, sched(0), num(2), num(1)), of(api.OIf, sched(0), num(12), num(2)))
	for i, a := range list {
		for j, b := range list {
			if p := simple(to(a), guard(sched(0), to(b))); i != j {
				stays(t, p)
			}
		}
	}
	list = truths()
	for i, a := range list {
		for j, b := range list {
			if p := simple(hold, guard(a, hold), guard(b, hold)); i != j {
				stays(t, p)
			}
		}
	}
	// Nor are those with like parts elsewhere.
	a, b := neg(rep), neg(num(1))
	becomes(t, simple(to(plus(plus(a, b), plus(b, a)))), with(2, simple(to(plus(plus(memo(0, a), memo(1, b)), plus(memo(1, b), memo(0, a)))))))
	becomes(t, simple(to(plus(plus(plus(a, b), rep), plus(a, plus(b, rep))))), with(2, simple(to(plus(plus(plus(memo(0, a), memo(1, b)), rep), plus(memo(0, a), plus(memo(1, b), rep)))))))
}

// What has no parts, and actions, are worth nothing, however often they stand there.
func TestP20_1WhatIsNotWorthIt(t *testing.T) {
	for _, c := range []api.Core{num(0), num(5), num(most), rep, win(0), win(8), fail(1, 1), fail(3, 1)} {
		stays(t, simple(to(c), guard(of(api.OLess, c, c), to(c)), guard(of(api.OEq, c, c), ladder(c, to(c)))))
	}
	for _, c := range []api.Core{no, yes, sched(0), sched(8), fail(1, 2), fail(3, 2)} {
		stays(t, simple(hold, guard(c, hold), guard(c, hold), guard(of(api.OAnd, c, c), hold), guard(of(api.OOr, c, c), hold)))
	}
	for _, c := range []api.Core{hold, to(rep), by(rep), to(num(5)), ladder(rep, hold), ladder(rep, num(1), to(rep), by(rep)), ladder(rep, num(1), ladder(rep, hold), num(2), ladder(rep, hold), hold)} {
		stays(t, simple(c, guard(sched(0), c), guard(sched(0), c), guard(sched(1), ladder(rep, num(1), c, num(2), c, c))))
	}
	empty := api.Core{Op: api.ORep, Parts: []api.Core{}}
	stays(t, simple(to(plus(empty, empty)), guard(sched(0), ladder(empty, to(empty)))))
}

// Actions aren't put into OMemos, but what is within them is.
func TestP20_1WithinActions(t *testing.T) {
	a, b := neg(rep), of(api.OAbs, rep)
	put := func(f func(a, b api.Core) api.Core, locals int, kept ...api.Core) {
		t.Helper()
		becomes(t, simple(f(a, b)), with(locals, simple(f(kept[0], kept[1]))))
		becomes(t, simple(hold, guard(sched(0), f(a, b))), with(locals, simple(hold, guard(sched(0), f(kept[0], kept[1])))))
		// Twice over all of it is there twice.
		twice, want := simple(f(a, b), guard(sched(0), f(a, b))), simple(f(memo(0, a), memo(1, b)), guard(sched(0), f(memo(0, a), memo(1, b))))
		becomes(t, twice, with(2, want))
	}
	put(func(a, b api.Core) api.Core { return ladder(a, num(1), to(a), by(b)) }, 1, memo(0, a), b)
	put(func(a, b api.Core) api.Core { return ladder(a, num(1), to(b), by(b)) }, 1, a, memo(0, b))
	put(func(a, b api.Core) api.Core { return ladder(rep, num(1), to(a), num(2), by(b), to(a)) }, 1, memo(0, a), b)
	put(func(a, b api.Core) api.Core { return ladder(rep, num(1), to(a), num(2), by(b), to(b)) }, 1, a, memo(0, b))
	put(func(a, b api.Core) api.Core { return ladder(a, num(1), to(b), num(2), by(a), to(b)) }, 2, memo(0, a), memo(1, b))
	put(func(a, b api.Core) api.Core { return ladder(rep, num(1), ladder(a, hold), ladder(b, to(a))) }, 1, memo(0, a), b)
	put(func(a, b api.Core) api.Core { return ladder(a, ladder(b, ladder(a, ladder(b, hold)))) }, 2, memo(0, a), memo(1, b))
}

// Nothing within what is put into an OMemo is looked at; what stands there still counts as another one.
func TestP20_1WithinOthers(t *testing.T) {
	x := neg(rep)
	y := plus(x, num(1))
	z := of(api.OMul, y, y)
	becomes(t, simple(to(z)), with(1, simple(to(of(api.OMul, memo(0, y), memo(0, y))))))
	becomes(t, simple(to(plus(z, z))), with(1, simple(to(plus(memo(0, z), memo(0, z))))))
	becomes(t, simple(to(plus(z, plus(z, y)))), with(2, simple(to(plus(memo(0, z), plus(memo(0, z), memo(1, y)))))))
	becomes(t, simple(to(plus(y, plus(z, z)))), with(2, simple(to(plus(memo(0, y), plus(memo(1, z), memo(1, z)))))))
	becomes(t, simple(to(plus(plus(x, y), plus(z, z)))), with(3, simple(to(plus(plus(memo(0, x), memo(1, y)), plus(memo(2, z), memo(2, z)))))))
	// One that stands outside once alone, as it stands within another.
	becomes(t, simple(to(plus(x, y))), with(1, simple(to(plus(memo(0, x), plus(memo(0, x), num(1)))))))
	becomes(t, simple(to(plus(plus(x, num(2)), plus(y, y)))), with(2, simple(to(plus(plus(memo(0, x), num(2)), plus(memo(1, y), memo(1, y)))))))
	// A core within itself isn't the same as itself.
	stays(t, simple(to(neg(neg(neg(rep))))))
	becomes(t, simple(to(plus(neg(neg(rep)), neg(neg(neg(rep)))))), with(1, simple(to(plus(memo(0, neg(neg(rep))), neg(memo(0, neg(neg(rep)))))))))
	becomes(t, simple(to(plus(neg(neg(neg(rep))), neg(neg(rep))))), with(1, simple(to(plus(neg(memo(0, neg(neg(rep)))), memo(0, neg(neg(rep))))))))
	// Alike parts of truths and numbers.
	when := of(api.OLess, y, num(3))
	becomes(t, simple(to(of(api.OIf, when, y, x)), guard(when, hold)), with(3, simple(to(of(api.OIf, memo(0, when), memo(1, y), memo(2, x))), guard(memo(0, when), hold))))
}

// The numbers are given in the plan's order: guards, When ahead of Then, then Final; a node, then its parts.
func TestP20_1Order(t *testing.T) {
	a, b, c, d, e := neg(win(0)), neg(win(1)), neg(win(2)), neg(win(3)), of(api.ONot, sched(0))
	p := simple(ladder(plus(e2n(e), a), num(1), to(b), to(plus(c, d))), guard(of(api.OLess, d, c), to(b)), guard(e, by(a)))
	want := simple(ladder(plus(e2n(memo(3, e)), memo(4, a)), num(1), to(memo(2, b)), to(plus(memo(1, c), memo(0, d)))), guard(of(api.OLess, memo(0, d), memo(1, c)), to(memo(2, b))), guard(memo(3, e), by(memo(4, a))))
	becomes(t, p, with(5, want))
	// Not in the order in which they come the second time.
	becomes(t, simple(to(plus(plus(a, b), plus(b, a)))), with(2, simple(to(plus(plus(memo(0, a), memo(1, b)), plus(memo(1, b), memo(0, a)))))))
	becomes(t, simple(to(plus(a, plus(b, plus(c, plus(c, plus(b, a))))))), with(3, simple(to(plus(memo(0, a), plus(memo(1, b), plus(memo(2, c), plus(memo(2, c), plus(memo(1, b), memo(0, a))))))))))
	// One that isn't worth it gets no number.
	becomes(t, simple(to(plus(plus(a, b), plus(c, b)))), with(1, simple(to(plus(plus(a, memo(0, b)), plus(c, memo(0, b)))))))
	becomes(t, simple(to(of(api.OIf, e, a, b)), guard(sched(1), to(of(api.OIf, e, b, c)))), with(2, simple(to(of(api.OIf, memo(0, e), a, memo(1, b))), guard(sched(1), to(of(api.OIf, memo(0, e), memo(1, b), c))))))
}

// e2n answers a number that asks the truth.
func e2n(truth api.Core) api.Core {
	return of(api.OIf, truth, num(1), num(0))
}

func TestP20_1ManyTimes(t *testing.T) {
	for _, times := range []int{1, 2, 3, 10, 100} {
		var p, want api.Plan
		c := plus(win(0), rep)
		p, want = simple(hold), simple(hold)
		for range times {
			p.Guards = append(p.Guards, guard(sched(0), to(c)))
			want.Guards = append(want.Guards, guard(sched(0), to(memo(0, c))))
		}
		if times == 1 {
			stays(t, p)
		} else {
			becomes(t, p, with(1, want))
		}
	}
}

func TestP20_1AllElseIsAsItWas(t *testing.T) {
	c := neg(rep)
	for _, metrics := range [][]string{nil, {"a"}, {"", "a", "a", "é"}, make([]string, 64)} {
		for _, rules := range []api.Rules{{Max: 1, Step: 1}, {Min: 1, Max: 9, Step: 2, Up: 30, Down: 60}, {Min: 1000000, Max: 1000000, Step: 1000000, Up: 604800, Down: 604800}} {
			p := api.Plan{Metrics: metrics, Rules: rules, Final: to(plus(c, c)), Guards: []api.Guard{guard(no, hold), guard(yes, hold), guard(no, hold)}}
			want := p
			want.Final, want.Locals = to(plus(memo(0, c), memo(0, c))), 1
			becomes(t, p, want)
			p.Final, want.Final, want.Locals = hold, hold, 0
			becomes(t, p, want)
		}
	}
	// Windows and schedules that nothing asks for stay.
	stays(t, simple(hold))
}
