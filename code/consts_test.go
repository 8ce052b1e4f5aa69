package code

import (
	"fmt"
	"strings"
	"testing"

	"capstan/api"
)

// sum answers the sum of the cores, from the left.
func sum(first api.Core, others ...api.Core) api.Core {
	for _, c := range others {
		first = plus(first, c)
	}
	return first
}

// asks wants of a plan to sum the cores up that the numbers of its INums and IScales are these, and its constants.
func asks(t *testing.T, numbers string, consts []int64, cores ...api.Core) {
	t.Helper()
	p := simple(to(sum(cores[0], cores[1:]...)))
	got, errno := Emit(p)
	var list []string
	for _, i := range got.Code {
		switch i.Op {
		case api.INum:
			list = append(list, fmt.Sprint(i.A))
		case api.IScale:
			list = append(list, fmt.Sprint("s", i.A))
		}
	}
	if strings.Join(list, " ") != numbers || !sameList(got.Consts, consts) || errno != api.OK {
		t.Errorf("%s: %s of %d, %d, wanted %s of %d", brief(p.Final), list, got.Consts, errno, numbers, consts)
	}
	sound(t, p)
}

func TestP21_1NumbersAreThereOnce(t *testing.T) {
	asks(t, "0", []int64{5}, num(5))
	asks(t, "0 0 0", []int64{5}, num(5), num(5), num(5))
	asks(t, "0 1 0 2 1 2", []int64{5, 6, 7}, num(5), num(6), num(5), num(7), num(6), num(7))
	asks(t, "0 1 2 3", []int64{7, 6, 5, -5}, num(7), num(6), num(5), num(-5))
	asks(t, "0 1 2 0 1", []int64{most, least, 0}, num(most), num(least), num(0), num(most), num(least))
	asks(t, "", nil, rep, rep, win(0))
}

// Truths are numbers there, and so are a ladder's bounds.
func TestP21_1TruthsAreNumbers(t *testing.T) {
	emits(t, simple(to(num(1)), guard(yes, to(num(0))), guard(no, to(num(2)))), 1, "INum 0; IZero 4; INum 1; ITo; INum 1; IZero 8; INum 2; ITo; INum 0; ITo", 1, 0, 2)
	emits(t, simple(ladder(num(1), num(0), hold, num(1), hold, hold), guard(yes, hold)), 3, "INum 0; IZero 3; IHold; INum 0; ICopy; INum 1; ILess; IZero 10; IDrop; IHold; ICopy; INum 0; ILess; IZero 16; IDrop; IHold; IDrop; IHold", 1, 0)
	// The 0 of an and is asked for behind its parts, the 1 of an or between them.
	when := func(op int, b api.Core) api.Plan { return simple(hold, guard(of(op, sched(0), b), hold)) }
	two := of(api.OLess, num(2), num(1))
	emits(t, when(api.OAnd, two), 2, "ICron 0; IZero 6; INum 0; INum 1; ILess; IJump 7; INum 2; IZero 9; IHold; IHold", 2, 1, 0)
	emits(t, when(api.OOr, two), 2, "ICron 0; IZero 4; INum 0; IJump 7; INum 1; INum 0; ILess; IZero 9; IHold; IHold", 1, 2)
	emits(t, when(api.OAnd, no), 1, "ICron 0; IZero 4; INum 0; IJump 5; INum 0; IZero 7; IHold; IHold", 0)
	emits(t, when(api.OOr, yes), 1, "ICron 0; IZero 4; INum 0; IJump 5; INum 0; IZero 7; IHold; IHold", 1)
}

// The order is that of the code: guards ahead of Final, When ahead of Then, parts from the left, a bound ahead of its action.
func TestP21_1TheOrderOfConstants(t *testing.T) {
	p := simple(ladder(num(30), num(31), to(num(32)), num(33), by(num(34)), to(num(35))),
		guard(of(api.OLess, num(10), num(11)), to(of(api.OIf, of(api.OEq, num(12), num(13)), num(14), num(15)))),
		guard(of(api.OLess, of(api.OEither, num(20), num(21)), memo(0, num(22))), by(scaled(24, 25, num(23)))))
	got, errno := Emit(p)
	if want := []int64{10, 11, 12, 13, 14, 15, 20, 21, 22, 23, 24, 25, 30, 31, 32, 33, 34, 35}; !sameList(got.Consts, want) || errno != api.OK {
		t.Error(got.Consts, errno)
	}
	sound(t, p)
}

func TestP21_1Pairs(t *testing.T) {
	by := func(n, m int64) api.Core { return scaled(n, m, rep) }
	// Put behind all others.
	asks(t, "s0", []int64{1, 1000}, by(1, 1000))
	asks(t, "0 s1", []int64{5, 1, 1000}, num(5), by(1, 1000))
	asks(t, "s0 s2", []int64{1, 1000, 2, 1000}, by(1, 1000), by(2, 1000))
	asks(t, "s0 s2", []int64{1, 1000, 1, 2000}, by(1, 1000), by(1, 2000))
	asks(t, "s0 s2 s4", []int64{1, 2, 3, 4, 1, 5}, by(1, 2), by(3, 4), by(1, 5))
	// The pair is there.
	asks(t, "s0 s0", []int64{1, 1000}, by(1, 1000), by(1, 1000))
	asks(t, "0 1 s0", []int64{1, 1000}, num(1), num(1000), by(1, 1000))
	asks(t, "0 1 2 3 s1", []int64{5, 1, 1000, 6}, num(5), num(1), num(1000), num(6), by(1, 1000))
	asks(t, "s0 s2 s1", []int64{1, 2, 3, 4}, by(1, 2), by(3, 4), by(2, 3)) // over the edge of two others
	asks(t, "0 s1 s0", []int64{7, 1, 2}, num(7), by(1, 2), by(7, 1))
	// The last one is N.
	asks(t, "0 s0", []int64{1, 1000}, num(1), by(1, 1000))
	asks(t, "0 1 s1", []int64{5, 1, 1000}, num(5), num(1), by(1, 1000))
	asks(t, "s0 s1", []int64{1, 1000, 7}, by(1, 1000), by(1000, 7))
	asks(t, "s0 s1 s2", []int64{1, 2, 3, 4}, by(1, 2), by(2, 3), by(3, 4))
	// N stands there, but not last; M stands there, but not behind N; both, but the other way round.
	asks(t, "0 1 s2", []int64{1, 5, 1, 1000}, num(1), num(5), by(1, 1000))
	asks(t, "0 s1", []int64{1000, 1, 1000}, num(1000), by(1, 1000))
	asks(t, "0 1 s1", []int64{1000, 1, 1000}, num(1000), num(1), by(1, 1000))
	asks(t, "0 1 2 s3", []int64{1, 5, 1000, 1, 1000}, num(1), num(5), num(1000), by(1, 1000))
	// The first of several places; the one that is there ahead of the last constant.
	asks(t, "s0 s2 s3 s0", []int64{1, 2, 1, 3, 2}, by(1, 2), by(1, 3), by(3, 2), by(1, 2))
	asks(t, "s0 s2 s0 s2", []int64{1, 2, 3, 1}, by(1, 2), by(3, 1), by(1, 2), by(3, 1))
}

func TestP21_1PairsOfOneNumber(t *testing.T) {
	by := func(n, m int64) api.Core { return scaled(n, m, rep) }
	asks(t, "s0", []int64{5, 5}, by(5, 5))
	asks(t, "0 s0", []int64{5, 5}, num(5), by(5, 5))
	asks(t, "0 1 s2", []int64{5, 6, 5, 5}, num(5), num(6), by(5, 5))
	asks(t, "s0 s0", []int64{5, 5}, by(5, 5), by(5, 5))
	asks(t, "s0 s1 s1", []int64{5, 5, 6}, by(5, 5), by(5, 6), by(5, 6))
	asks(t, "s0 s1 s2", []int64{4, 5, 5, 4}, by(4, 5), by(5, 5), by(5, 4))
	asks(t, "s0", []int64{most, most}, by(most, most))
	asks(t, "s0", []int64{0, 1}, by(0, 1))
}

// A number is asked for at the first place at which it stands, wherever it came from.
func TestP21_1NumbersBehindPairs(t *testing.T) {
	by := func(n, m int64) api.Core { return scaled(n, m, rep) }
	asks(t, "s0 0 1", []int64{1, 1000}, by(1, 1000), num(1), num(1000))
	asks(t, "s0 s2 0 1 2", []int64{1, 1000, 2, 1000}, by(1, 1000), by(2, 1000), num(1), num(1000), num(2))
	asks(t, "s0 s2 0 3", []int64{1, 1000, 1, 2000}, by(1, 1000), by(1, 2000), num(1), num(2000))
	asks(t, "s0 0", []int64{5, 5}, by(5, 5), num(5))
	// The constants within what is scaled are asked for first.
	asks(t, "0 s0", []int64{1, 2}, scaled(1, 2, num(1)))
	asks(t, "0 s1", []int64{2, 1, 2}, scaled(1, 2, num(2)))
	asks(t, "0 s1 s2", []int64{7, 5, 6, 8}, scaled(6, 8, scaled(5, 6, num(7))))
}

func TestP21_1ManyConstants(t *testing.T) {
	var numbers, pairs []api.Core
	var consts []int64
	for i := range int64(1000) {
		numbers = append(numbers, num(i*3))
		consts = append(consts, i*3)
	}
	p := simple(to(sum(rep, numbers...)))
	if got, errno := Emit(p); !sameList(got.Consts, consts) || errno != api.OK {
		t.Error(got.Consts, errno)
	}
	for i := range int64(999) {
		pairs = append(pairs, scaled(i*3, i*3+3, rep))
	}
	// All pairs stand there already, once the numbers do.
	p = simple(to(sum(rep, pairs...)), guard(sched(0), to(sum(rep, numbers...))))
	if got, errno := Emit(p); errno != api.ErrForm { // too many nodes together
		t.Error(brief(got), errno)
	}
	p = simple(to(sum(rep, pairs[:600]...)), guard(sched(0), to(sum(rep, numbers[:601]...))))
	got, errno := Emit(p)
	if !sameList(got.Consts, consts[:601]) || errno != api.OK {
		t.Error(got.Consts, errno)
	}
	sound(t, p)
}
