package prune

import (
	"fmt"
	"math"
	"reflect"
	"testing"

	"capstan/api"
	"capstan/core"
)

const (
	most  = math.MaxInt64
	least = math.MinInt64
)

func num(n int64) api.Core {
	return api.Core{Op: api.ONum, N: n}
}

func of(op int, parts ...api.Core) api.Core {
	return api.Core{Op: op, Parts: parts}
}

func fail(reason, sort int64) api.Core {
	return api.Core{Op: api.OFail, N: reason, M: sort}
}

func memo(n int64, part api.Core) api.Core {
	return api.Core{Op: api.OMemo, N: n, Parts: []api.Core{part}}
}

func scaled(n, m int64, part api.Core) api.Core {
	return api.Core{Op: api.OScale, N: n, M: m, Parts: []api.Core{part}}
}

func win(n int64) api.Core {
	return api.Core{Op: api.OWin, N: n}
}

func sched(n int64) api.Core {
	return api.Core{Op: api.OCron, N: n}
}

func to(n int64) api.Core {
	return of(api.OTo, num(n))
}

func by(n int64) api.Core {
	return of(api.OBy, num(n))
}

func ladder(parts ...api.Core) api.Core {
	return of(api.OLadder, parts...)
}

func guard(when, then api.Core) api.Guard {
	return api.Guard{When: when, Then: then}
}

var (
	no   = api.Core{Op: api.OBool}
	yes  = api.Core{Op: api.OBool, N: 1}
	rep  = api.Core{Op: api.ORep}
	hold = api.Core{Op: api.OHold}
	less = of(api.OLess, rep, num(5)) // a truth that isn't known
)

var daily = api.Cron{Minute: 1, Hour: 1, Day: 1<<32 - 2, Month: 1<<13 - 2, Week: 1<<7 - 1}

// simple answers a plan of the guards and the action alone.
func simple(final api.Core, guards ...api.Guard) api.Plan {
	return api.Plan{Rules: api.Rules{Max: 1, Step: 1}, Guards: guards, Final: final}
}

// seconds answers a window over so many seconds.
func seconds(n int64) api.Win {
	return api.Win{Agg: api.ASum, Span: n}
}

// hourly answers a schedule of that hour, of one day or another.
func hourly(hour int) api.Cron {
	c := daily
	c.Hour = 1 << (hour % 24)
	return c
}

// watching answers a plan with windows over 1, 2, 3, .. seconds and schedules of the hours 0, 1, 2, .. in turn
func watching(wins, crons int, final api.Core, guards ...api.Guard) api.Plan {
	p := simple(final, guards...)
	p.Metrics, p.Locals = []string{"m"}, 256
	for i := range wins {
		p.Wins = append(p.Wins, seconds(int64(i)+1))
	}
	for i := range crons {
		p.Crons = append(p.Crons, hourly(i))
	}
	return p
}

// brief answers what x is, without the rest of a large one.
func brief(x any) string {
	text := fmt.Sprint(x)
	return text[:min(len(text), 500)]
}

// samePlan answers whether both are the same plan; lists without elements are alike.
func samePlan(a, b api.Plan) bool {
	if len(a.Metrics)+len(b.Metrics) == 0 {
		a.Metrics, b.Metrics = nil, nil
	}
	if len(a.Wins)+len(b.Wins) == 0 {
		a.Wins, b.Wins = nil, nil
	}
	if len(a.Crons)+len(b.Crons) == 0 {
		a.Crons, b.Crons = nil, nil
	}
	if len(a.Guards) != len(b.Guards) || !core.Same(a.Final, b.Final) {
		return false
	}
	for i, g := range a.Guards {
		if !core.Same(g.When, b.Guards[i].When) || !core.Same(g.Then, b.Guards[i].Then) {
			return false
		}
	}
	a.Guards, b.Guards, a.Final, b.Final = nil, nil, api.Core{}, api.Core{}
	return reflect.DeepEqual(a, b)
}

// becomes wants that p is pruned to want, and that this stays as it is.
func becomes(t *testing.T, p, want api.Plan) {
	t.Helper()
	if got, errno := Plan(p); !samePlan(got, want) || errno != api.OK {
		t.Errorf("Plan(%s) = %s, %d, wanted %s", brief(p), brief(got), errno, brief(want))
	}
	if got, errno := Plan(want); !samePlan(got, want) || errno != api.OK {
		t.Errorf("Plan(%s) = %s, %d, wanted the same", brief(want), brief(got), errno)
	}
}

func stays(t *testing.T, p api.Plan) {
	t.Helper()
	becomes(t, p, p)
}

func noPlan(t *testing.T, p api.Plan) {
	t.Helper()
	if got, errno := Plan(p); !samePlan(got, api.Plan{}) || errno != api.ErrForm {
		t.Errorf("Plan(%s) = %s, %d, wanted ErrForm", brief(p), brief(got), errno)
	}
}

func TestP19_1Examples(t *testing.T) {
	below, y := of(api.OLess, win(0), num(1)), sched(0)
	p := watching(1, 1, to(9), guard(no, hold), guard(below, to(2)), guard(yes, by(1)), guard(y, hold))
	becomes(t, p, watching(1, 0, by(1), guard(below, to(2))))
	becomes(t, simple(ladder(rep, num(5), hold, num(7), hold, num(9), to(1), to(1))), simple(ladder(rep, num(7), hold, to(1))))
	p = watching(2, 0, of(api.OTo, win(1)))
	want := watching(2, 0, of(api.OTo, win(0)))
	want.Wins = want.Wins[1:]
	becomes(t, p, want)
}

func TestP19_1GuardsThatAreNeverMet(t *testing.T) {
	a, b, c := guard(less, to(1)), guard(fail(1, 2), to(2)), guard(of(api.ONot, less), hold)
	never := guard(no, to(7))
	becomes(t, simple(hold, never), simple(hold))
	becomes(t, simple(hold, never, never, never), simple(hold))
	becomes(t, simple(hold, never, a, b, c), simple(hold, a, b, c))
	becomes(t, simple(hold, a, never, b, never, never, c), simple(hold, a, b, c))
	becomes(t, simple(hold, a, b, c, never), simple(hold, a, b, c))
	stays(t, simple(hold))
	stays(t, simple(hold, a))
	stays(t, simple(to(9), c, b, a, a, b, c)) // alike guards stay, in their order
	never.When.Parts = []api.Core{}
	becomes(t, simple(hold, never, a), simple(hold, a))
}

func TestP19_1GuardsThatAreAlwaysMet(t *testing.T) {
	a, b, never := guard(less, to(1)), guard(fail(1, 2), to(2)), guard(no, to(7))
	always, other := guard(yes, by(3)), guard(yes, by(4))
	becomes(t, simple(hold, always), simple(by(3)))
	becomes(t, simple(hold, always, other), simple(by(3)))
	becomes(t, simple(hold, other, always), simple(by(4)))
	becomes(t, simple(hold, always, a, b), simple(by(3)))
	becomes(t, simple(hold, a, always, b), simple(by(3), a))
	becomes(t, simple(hold, a, b, always), simple(by(3), a, b))
	becomes(t, simple(hold, never, always), simple(by(3)))
	becomes(t, simple(hold, always, never), simple(by(3)))
	becomes(t, simple(hold, never, a, never, b, never, always, never, a, other, b), simple(by(3), a, b))
	becomes(t, simple(to(5), a, guard(yes, hold)), simple(hold, a))
	// Though the guards say what is said behind them, they stay: a When may come to a reason.
	stays(t, simple(to(1), a, a))
	becomes(t, simple(hold, a, guard(yes, to(1))), simple(to(1), a))
	always.When.Parts = []api.Core{}
	becomes(t, simple(hold, a, always, b), simple(by(3), a))
}

// Only what is an OBool itself is known here: nothing is worked out.
func TestP19_1GuardsThatAreNotKnown(t *testing.T) {
	for _, when := range []api.Core{
		less, fail(1, 2), fail(2, 2), fail(3, 2), sched(0), of(api.ONot, no), of(api.ONot, yes), of(api.OAnd, no, less), of(api.OOr, yes, less), of(api.OAnd, yes, yes), of(api.OEither, no, yes), of(api.OEither, yes, no),
		of(api.OIf, yes, yes, yes), of(api.OIf, no, no, no), of(api.OLess, num(1), num(2)), of(api.OLess, num(2), num(1)), memo(0, no), memo(1, yes), memo(2, memo(1, yes)), of(api.OEq, num(0), num(0)), of(api.OEq, num(0), num(1)),
	} {
		p := watching(0, 1, to(1), guard(when, by(1)), guard(sched(0), hold))
		stays(t, p)
		p.Guards = []api.Guard{guard(no, to(4)), p.Guards[0], guard(no, to(4)), p.Guards[1], guard(yes, to(1)), guard(when, to(5))}
		becomes(t, p, watching(0, 1, to(1), guard(when, by(1)), guard(sched(0), hold)))
	}
}

func TestP19_1Rungs(t *testing.T) {
	a, b, c := to(1), by(1), of(api.OTo, rep)
	for _, x := range []struct{ from, want api.Core }{
		{ladder(rep, a), ladder(rep, a)}, // what is asked may come to a reason: the ladder stays
		{ladder(rep, num(5), a, a), ladder(rep, a)},
		{ladder(rep, num(5), hold, hold), ladder(rep, hold)},
		{ladder(rep, num(5), a, b), ladder(rep, num(5), a, b)},
		{ladder(rep, num(5), a, num(6), a, b), ladder(rep, num(6), a, b)},
		{ladder(rep, num(5), a, num(6), b, b), ladder(rep, num(5), a, b)},
		{ladder(rep, num(5), a, num(6), b, a), ladder(rep, num(5), a, num(6), b, a)}, // one behind the next doesn't count
		{ladder(rep, num(5), a, num(6), a, a), ladder(rep, a)},
		{ladder(rep, num(1), a, num(2), b, num(3), c, num(4), a, num(5), b, c), ladder(rep, num(1), a, num(2), b, num(3), c, num(4), a, num(5), b, c)},
		{ladder(rep, num(1), a, num(2), a, num(3), b, num(4), b, num(5), b, num(6), a, num(7), c, num(8), c, c), ladder(rep, num(2), a, num(5), b, num(6), a, c)},
		{ladder(rep, num(1), c, num(2), a, num(3), a, num(4), a, num(5), c, c), ladder(rep, num(1), c, num(4), a, c)},
		{ladder(rep, num(least), a, num(0), a, num(most), a, b), ladder(rep, num(most), a, b)},
		{ladder(rep, num(least), a, num(0), b, num(most), b, b), ladder(rep, num(least), a, b)},
		{ladder(num(3), num(1), a, num(2), a, b), ladder(num(3), num(2), a, b)}, // not worked out
		{ladder(fail(2, 1), num(1), a, a), ladder(fail(2, 1), a)},
		{ladder(of(api.OMax, rep, of(api.ODiv, num(1), num(0))), num(1), c, num(2), c, c), ladder(of(api.OMax, rep, of(api.ODiv, num(1), num(0))), c)},
	} {
		becomes(t, simple(x.from), simple(x.want))
		becomes(t, simple(hold, guard(less, x.from), guard(fail(1, 2), x.from)), simple(hold, guard(less, x.want), guard(fail(1, 2), x.want)))
		becomes(t, simple(hold, guard(less, hold), guard(yes, x.from), guard(less, x.from)), simple(x.want, guard(less, hold)))
		becomes(t, simple(x.from, guard(no, x.from)), simple(x.want))
		becomes(t, simple(ladder(num(7), num(0), x.from, num(1), hold, x.from)), simple(ladder(num(7), num(0), x.want, num(1), hold, x.want)))
	}
}

// Actions are alike only if they are so in every field.
func TestP19_1RungsThatAreNotAlike(t *testing.T) {
	list := []api.Core{
		hold, to(0), to(1), by(0), by(1), of(api.OTo, rep), of(api.OTo, win(0)), of(api.OTo, win(1)), of(api.OBy, win(1)), of(api.OTo, fail(1, 1)), of(api.OTo, fail(2, 1)), of(api.OTo, memo(0, rep)), of(api.OTo, memo(1, rep)),
		of(api.OTo, scaled(1, 2, rep)), of(api.OTo, scaled(2, 2, rep)), of(api.OTo, scaled(1, 3, rep)), of(api.OTo, of(api.OAdd, rep, num(1))), of(api.OTo, of(api.OAdd, num(1), rep)), of(api.OTo, of(api.OAdd, num(0), num(1))),
		ladder(rep, to(1)), ladder(rep, num(1), to(2), to(1)), ladder(rep, num(2), to(2), to(1)), ladder(num(1), to(1)), ladder(rep, hold), ladder(rep, ladder(rep, hold)),
	}
	for i, a := range list {
		for j, b := range list {
			p := watching(2, 0, ladder(win(0), num(5), a, b), guard(less, of(api.OTo, win(1))))
			want := p
			if i == j {
				want.Final = ladder(win(0), b)
			}
			becomes(t, p, want)
		}
	}
}

func TestP19_1LaddersWithin(t *testing.T) {
	a, b, v := to(1), by(1), of(api.ONeg, rep)
	wide := ladder(v, num(1), a, num(2), a, b)
	slim := ladder(v, num(2), a, b)
	becomes(t, simple(ladder(rep, wide)), simple(ladder(rep, slim)))
	becomes(t, simple(ladder(rep, num(1), wide, hold)), simple(ladder(rep, num(1), slim, hold)))
	becomes(t, simple(ladder(rep, num(1), hold, num(2), wide, num(3), wide, num(4), hold, wide)), simple(ladder(rep, num(1), hold, num(3), slim, num(4), hold, slim)))
	// They are alike only when they are pruned themselves.
	becomes(t, simple(ladder(rep, num(1), wide, slim)), simple(ladder(rep, slim)))
	becomes(t, simple(ladder(rep, num(1), slim, wide)), simple(ladder(rep, slim)))
	becomes(t, simple(ladder(rep, num(1), ladder(v, num(1), hold, hold), num(2), ladder(v, num(7), hold, num(8), hold, hold), ladder(v, hold))), simple(ladder(rep, ladder(v, hold))))
	becomes(t, simple(ladder(rep, num(1), ladder(rep, num(1), wide, slim), ladder(rep, num(5), slim, num(6), wide, slim))), simple(ladder(rep, ladder(rep, slim))))
	// A ladder of no rungs isn't its action.
	stays(t, simple(ladder(rep, num(1), ladder(v, a), a)))
	becomes(t, simple(ladder(rep, num(1), ladder(rep, num(1), a, a), a)), simple(ladder(rep, num(1), ladder(rep, a), a)))
	c, want := wide, slim
	for i := range int64(500) {
		c, want = ladder(num(i), num(i), c, hold), ladder(num(i), num(i), want, hold)
	}
	becomes(t, simple(c), simple(want))
	c, want = to(5), to(5)
	for range 9 { // each rung alike only by those within it
		c, want = ladder(rep, num(1), c, c), ladder(rep, want)
	}
	becomes(t, simple(c), simple(want))
}

func TestP19_1LaddersInGuards(t *testing.T) {
	wide, slim := ladder(rep, num(1), to(1), num(2), to(1), hold), ladder(rep, num(2), to(1), hold)
	p := simple(wide, guard(less, wide), guard(no, wide), guard(fail(1, 2), wide))
	becomes(t, p, simple(slim, guard(less, slim), guard(fail(1, 2), slim)))
	p.Guards = append(p.Guards, guard(yes, ladder(num(9), num(0), wide, slim)), guard(less, wide))
	becomes(t, p, simple(ladder(num(9), slim), guard(less, slim), guard(fail(1, 2), slim)))
}
