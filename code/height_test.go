package code

import (
	"testing"

	"capstan/api"
)

// high wants that height of a plan, which has it as its Final and as a guard's action.
func high(t *testing.T, height int, action api.Core) {
	t.Helper()
	for _, p := range []api.Plan{simple(action), simple(hold, guard(sched(0), action)), simple(to(rep), guard(sched(0), hold), guard(sched(1), action))} {
		want := height
		if len(p.Guards) > 0 {
			want = max(want, 1) // for the schedule
		}
		if got, errno := Emit(p); got.Height != want || errno != api.OK {
			t.Errorf("Emit(%s): height %d, %d, wanted %d", brief(p), got.Height, errno, want)
		}
		sound(t, p)
	}
}

func TestP21_1HeightsOfNumbers(t *testing.T) {
	high(t, 0, hold)
	for _, c := range []api.Core{num(1), rep, win(0), fail(1, 1), neg(rep), scaled(1, 2, rep), memo(0, rep), memo(0, memo(1, rep)), of(api.OAbs, neg(rep))} {
		high(t, 1, to(c))
		high(t, 1, by(c))
		high(t, 2, to(plus(c, c)))
		high(t, 2, to(plus(plus(c, c), c)))
		high(t, 3, to(plus(c, plus(c, c))))
		high(t, 3, to(plus(plus(c, c), plus(c, c))))
		high(t, 3, to(plus(c, plus(plus(c, c), c))))
		high(t, 4, to(plus(c, plus(c, plus(c, c)))))
	}
	for _, op := range []int{api.OAdd, api.OSub, api.OMul, api.ODiv, api.OMin, api.OMax} {
		high(t, 2, to(of(op, rep, rep)))
		high(t, 2, to(of(op, of(op, rep, rep), rep)))
		high(t, 3, to(of(op, rep, of(op, rep, rep))))
		high(t, 3, to(neg(of(op, rep, memo(0, of(op, rep, rep))))))
	}
}

// Of a choice's parts none stands on the stack where the next one begins.
func TestP21_1HeightsOfChoices(t *testing.T) {
	two, three := plus(rep, rep), plus(rep, plus(rep, rep))
	less := func(c api.Core) api.Core { return of(api.OLess, c, rep) }
	when := func(c api.Core) api.Core { return to(of(api.OIf, c, rep, rep)) }
	high(t, 1, when(sched(0)))
	high(t, 2, when(less(rep)))
	high(t, 3, when(of(api.OLess, rep, two)))
	for _, op := range []int{api.OAnd, api.OOr, api.OEither} {
		high(t, 1, when(of(op, sched(0), sched(1))))
		high(t, 2, when(of(op, less(two), sched(1))))
		high(t, 2, when(of(op, sched(0), less(two))))
		high(t, 3, when(of(op, sched(0), less(three))))
		high(t, 3, when(of(op, less(three), less(two))))
		high(t, 1, when(of(op, of(op, sched(0), sched(1)), of(op, sched(2), of(op, sched(3), sched(4))))))
	}
	high(t, 1, when(of(api.ONot, sched(0))))
	high(t, 2, when(of(api.ONot, less(two))))
	high(t, 1, to(of(api.OEither, rep, of(api.OEither, rep, rep))))
	high(t, 3, to(of(api.OEither, three, rep)))
	high(t, 3, to(of(api.OEither, rep, three)))
	high(t, 3, to(of(api.OIf, sched(0), three, two)))
	high(t, 3, to(of(api.OIf, sched(0), two, three)))
	high(t, 3, to(of(api.OIf, less(three), two, two)))
	// But below them all what stood there stands on.
	high(t, 3, to(plus(rep, of(api.OEither, rep, two))))
	high(t, 3, to(plus(rep, of(api.OIf, less(rep), rep, rep))))
	high(t, 2, to(plus(rep, of(api.OIf, of(api.OAnd, sched(0), sched(1)), rep, rep))))
	high(t, 4, to(plus(rep, of(api.OIf, of(api.OOr, sched(0), of(api.OEq, rep, two)), rep, rep))))
	high(t, 4, to(plus(rep, plus(rep, of(api.OEither, two, rep)))))
}

func TestP21_1HeightsOfLadders(t *testing.T) {
	two, three := plus(rep, rep), plus(rep, plus(rep, rep))
	four := plus(rep, three)
	high(t, 1, ladder(rep, hold))
	high(t, 1, ladder(num(1), hold))
	high(t, 2, ladder(two, hold))
	high(t, 2, ladder(rep, to(two)))
	high(t, 3, ladder(rep, num(1), hold, hold))
	high(t, 3, ladder(num(0), num(1), hold, hold))
	high(t, 3, ladder(three, num(1), hold, num(2), to(rep), num(3), hold, hold))
	// An action begins without what is asked, even where there are more.
	high(t, 3, ladder(rep, num(1), to(three), hold))
	high(t, 3, ladder(rep, num(1), hold, to(three)))
	high(t, 4, ladder(rep, num(1), to(four), hold))
	high(t, 4, ladder(rep, num(1), hold, num(2), by(two), to(four)))
	high(t, 4, ladder(four, num(1), hold, hold))
	high(t, 3, ladder(rep, num(1), ladder(rep, num(1), ladder(rep, num(1), hold, hold), hold), ladder(rep, num(1), hold, hold)))
	high(t, 1, ladder(rep, ladder(rep, ladder(rep, to(rep)))))
}

// The greatest of all: When, Then, Final, whichever it is in.
func TestP21_1HeightsOfPlans(t *testing.T) {
	five := plus(rep, plus(rep, plus(rep, plus(rep, rep))))
	less := of(api.OLess, five, rep)
	for _, p := range []api.Plan{
		simple(to(five)),
		simple(hold, guard(less, hold)),
		simple(hold, guard(sched(0), to(five))),
		simple(to(rep), guard(sched(0), hold), guard(less, to(rep)), guard(sched(0), hold)),
		simple(to(rep), guard(sched(0), by(five)), guard(sched(1), to(rep)), guard(sched(0), hold)),
		simple(by(five), guard(sched(0), by(five)), guard(less, to(rep)), guard(sched(0), hold)),
	} {
		if got, errno := Emit(p); got.Height != 5 || errno != api.OK {
			t.Errorf("Emit(%s): height %d, %d", brief(p), got.Height, errno)
		}
		sound(t, p)
	}
	// What comes behind an OFail counts, though nothing goes there.
	high(t, 3, to(plus(fail(1, 1), plus(fail(2, 1), rep))))
	high(t, 4, to(plus(fail(1, 1), plus(rep, plus(rep, rep)))))
}

func TestP21_1HighStacks(t *testing.T) {
	for _, count := range []int{1, 10, 100, 1000, 2047} {
		left, right := rep, rep
		for range count {
			left, right = plus(left, rep), plus(rep, right)
		}
		for _, x := range []struct {
			c      api.Core
			height int
		}{{left, 2}, {right, count + 1}} {
			p := simple(to(x.c))
			if got, errno := Emit(p); got.Height != x.height || errno != api.OK {
				t.Errorf("%d: height %d, %d", count, got.Height, errno)
			}
			sound(t, p)
		}
	}
}
