package code

import (
	"fmt"
	"math"
	"reflect"
	"strconv"
	"strings"
	"testing"

	"capstan/api"
)

const (
	most  = math.MaxInt64
	least = math.MinInt64
)

func num(n int64) api.Core {
	return api.Core{Op: api.ONum, N: n}
}

func of(op int, parts ...api.Core) api.Core {
	return api.Core{Op: op, Parts: parts}
}

func fail(reason, sort int64) api.Core {
	return api.Core{Op: api.OFail, N: reason, M: sort}
}

func memo(n int64, part api.Core) api.Core {
	return api.Core{Op: api.OMemo, N: n, Parts: []api.Core{part}}
}

func scaled(n, m int64, part api.Core) api.Core {
	return api.Core{Op: api.OScale, N: n, M: m, Parts: []api.Core{part}}
}

func win(n int64) api.Core {
	return api.Core{Op: api.OWin, N: n}
}

func sched(n int64) api.Core {
	return api.Core{Op: api.OCron, N: n}
}

func plus(a, b api.Core) api.Core {
	return of(api.OAdd, a, b)
}

func neg(c api.Core) api.Core {
	return of(api.ONeg, c)
}

func to(c api.Core) api.Core {
	return of(api.OTo, c)
}

func by(c api.Core) api.Core {
	return of(api.OBy, c)
}

func ladder(parts ...api.Core) api.Core {
	return of(api.OLadder, parts...)
}

func guard(when, then api.Core) api.Guard {
	return api.Guard{When: when, Then: then}
}

var (
	no   = api.Core{Op: api.OBool}
	yes  = api.Core{Op: api.OBool, N: 1}
	rep  = api.Core{Op: api.ORep}
	hold = api.Core{Op: api.OHold}
)

var daily = api.Cron{Minute: 1, Hour: 1, Day: 1<<32 - 2, Month: 1<<13 - 2, Week: 1<<7 - 1}

// simple answers a plan of the guards and the action, with nine windows, nine schedules and nine locals.
func simple(final api.Core, guards ...api.Guard) api.Plan {
	p := api.Plan{Metrics: []string{"m"}, Rules: api.Rules{Max: 1, Step: 1}, Locals: 9, Guards: guards, Final: final}
	for i := range 9 {
		p.Wins = append(p.Wins, api.Win{Agg: api.ASum, Span: int64(i) + 1})
		p.Crons = append(p.Crons, daily)
		p.Crons[i].Minute = 1 << i
	}
	return p
}

// brief answers what x is, without the rest of a large one.
func brief(x any) string {
	text := fmt.Sprint(x)
	return text[:min(len(text), 1000)]
}

// sameList answers whether both are the same; lists without elements are alike.
func sameList[T any](a, b []T) bool {
	return len(a)+len(b) == 0 || reflect.DeepEqual(a, b)
}

// sameProgram answers whether both are the same program; lists without elements are alike.
func sameProgram(a, b api.Program) bool {
	lists := sameList(a.Consts, b.Consts) && sameList(a.Wins, b.Wins) && sameList(a.Crons, b.Crons) && sameList(a.Code, b.Code)
	return lists && a.Metrics == b.Metrics && a.Rules == b.Rules && a.Locals == b.Locals && a.Height == b.Height
}

// names answers the instructions' names, each in the place of its number.
func names() []string {
	return strings.Fields("none INum IRep IWin ICron IFail INeg INot IAbs ICeil IFloor IScale IAdd ISub IMul IDiv ILess ILeq IEq IMore IMeq IMin2 IMax2 IJump IZero ITry IDone IHave ISet IHold ITo IBy ICopy IDrop")
}

// told answers the code as the chapter writes it; an IHave's A as the local, a colon and the place.
func told(code []api.Instr) string {
	names := names()
	var list []string
	for _, i := range code {
		text := names[i.Op]
		switch i.Op {
		case 27:
			text += " " + strconv.FormatInt(i.A/16384, 10) + ":" + strconv.FormatInt(i.A%16384, 10)
		case 1, 3, 4, 5, 11, 23, 24, 25, 26, 28:
			text += " " + strconv.FormatInt(i.A, 10)
		default:
			if i.A != 0 {
				text += " " + strconv.FormatInt(i.A, 10) + ", which has none"
			}
		}
		list = append(list, text)
	}
	return strings.Join(list, "; ")
}

// emits wants that the plan is made to that code with these constants, and that all else is right.
func emits(t *testing.T, p api.Plan, height int, code string, consts ...int64) {
	t.Helper()
	got, errno := Emit(p)
	if told(got.Code) != code || errno != api.OK {
		t.Errorf("Emit(%s): %s, %d, wanted %s", brief(p), told(got.Code), errno, code)
	}
	if !sameList(got.Consts, consts) || got.Height != height {
		t.Errorf("Emit(%s): constants %d, height %d, wanted %d, %d", brief(p), got.Consts, got.Height, consts, height)
	}
	sound(t, p)
}

// sound wants that p is made to what the chapter says, read once more, and that the code leads where it may.
func sound(t *testing.T, p api.Plan) {
	t.Helper()
	got, errno := Emit(p)
	if want := plainEmit(p); !sameProgram(got, want) || errno != api.OK {
		t.Errorf("Emit(%s) = %s, %d, wanted %s", brief(p), brief(got), errno, brief(want))
	}
	leadsOn(t, got)
	if highest, fault := walked(got); fault != "" || highest != got.Height {
		t.Errorf("Emit(%s): height %d, wanted %d; fault: %s", brief(p), got.Height, highest, fault)
	}
}

// leadsOn wants of a program what P21.2 says.
func leadsOn(t *testing.T, p api.Program) {
	t.Helper()
	count := int64(len(p.Code))
	for at, i := range p.Code {
		target := i.A
		switch i.Op {
		case 27:
			target = i.A % 16384
		case 23, 24, 25, 26:
		default:
			continue
		}
		if target <= int64(at) || target >= count {
			t.Errorf("%s: the jump %d leads to %d of %d", brief(told(p.Code)), at, target, count)
		}
	}
	if op := p.Code[count-1].Op; op != 29 && op != 30 && op != 31 {
		t.Errorf("%s ends with %d", brief(told(p.Code)), op)
	}
}

func noProgram(t *testing.T, p api.Plan, why api.Errno) {
	t.Helper()
	if got, errno := Emit(p); !sameProgram(got, api.Program{}) || errno != why {
		t.Errorf("Emit(%s) = %s, %d, wanted %d", brief(p), brief(got), errno, why)
	}
}

func TestP21_1Examples(t *testing.T) {
	sum := plus(rep, num(500000))
	emits(t, simple(to(sum)), 2, "IRep; INum 0; IAdd; ITo", 500000)
	emits(t, simple(to(sum), guard(of(api.OAnd, sched(0), yes), hold)), 2, "ICron 0; IZero 4; INum 0; IJump 5; INum 1; IZero 7; IHold; IRep; INum 2; IAdd; ITo", 1, 0, 500000)
	emits(t, simple(to(of(api.OEither, win(0), num(7)))), 1, "ITry 3; IWin 0; IDone 4; INum 0; ITo", 7)
	emits(t, simple(to(scaled(1, 1000, win(0)))), 1, "IWin 0; IScale 0; ITo", 1, 1000)
}

func TestP21_1Leaves(t *testing.T) {
	for _, n := range []int64{0, 1, -1, 7, 500000, most, least} {
		emits(t, simple(to(num(n))), 1, "INum 0; ITo", n)
	}
	emits(t, simple(hold, guard(no, hold)), 1, "INum 0; IZero 3; IHold; IHold", 0)
	emits(t, simple(hold, guard(yes, hold)), 1, "INum 0; IZero 3; IHold; IHold", 1)
	emits(t, simple(to(rep)), 1, "IRep; ITo")
	for _, n := range []int64{0, 1, 8} {
		emits(t, simple(to(win(n))), 1, fmt.Sprintf("IWin %d; ITo", n))
		emits(t, simple(hold, guard(sched(n), hold)), 1, fmt.Sprintf("ICron %d; IZero 3; IHold; IHold", n))
	}
	for n := int64(1); n <= 3; n++ {
		emits(t, simple(to(fail(n, 1))), 1, fmt.Sprintf("IFail %d; ITo", n))
		emits(t, simple(hold, guard(fail(n, 2), hold)), 1, fmt.Sprintf("IFail %d; IZero 3; IHold; IHold", n))
	}
}

func TestP21_1Actions(t *testing.T) {
	emits(t, simple(hold), 0, "IHold")
	emits(t, simple(to(win(3))), 1, "IWin 3; ITo")
	emits(t, simple(by(win(3))), 1, "IWin 3; IBy")
	emits(t, simple(by(neg(num(5)))), 1, "INum 0; INeg; IBy", 5)
}

func TestP21_1OneAndTwoParts(t *testing.T) {
	for op, name := range map[int]string{8: "INeg", 10: "IAbs", 11: "ICeil", 12: "IFloor"} {
		emits(t, simple(to(of(op, rep))), 1, "IRep; "+name+"; ITo")
		emits(t, simple(to(of(op, of(op, num(5))))), 1, "INum 0; "+name+"; "+name+"; ITo", 5)
	}
	emits(t, simple(hold, guard(of(api.ONot, sched(2)), hold)), 1, "ICron 2; INot; IZero 4; IHold; IHold")
	for op, name := range map[int]string{14: "IAdd", 15: "ISub", 16: "IMul", 17: "IDiv", 23: "IMin2", 24: "IMax2"} {
		emits(t, simple(to(of(op, rep, win(1)))), 2, "IRep; IWin 1; "+name+"; ITo")
		emits(t, simple(to(of(op, win(1), rep))), 2, "IWin 1; IRep; "+name+"; ITo")
		emits(t, simple(to(of(op, of(op, rep, num(2)), of(op, num(3), num(2))))), 3, "IRep; INum 0; "+name+"; INum 1; INum 0; "+name+"; "+name+"; ITo", 2, 3)
	}
	for op, name := range map[int]string{18: "ILess", 19: "ILeq", 20: "IEq", 21: "IMore", 22: "IMeq"} {
		emits(t, simple(hold, guard(of(op, rep, win(1)), hold)), 2, "IRep; IWin 1; "+name+"; IZero 5; IHold; IHold")
		emits(t, simple(hold, guard(of(op, num(4), rep), hold)), 2, "INum 0; IRep; "+name+"; IZero 5; IHold; IHold", 4)
	}
}

func TestP21_1Choices(t *testing.T) {
	when := func(c api.Core) api.Plan { return simple(hold, guard(c, hold)) }
	emits(t, when(of(api.OAnd, sched(0), sched(1))), 1, "ICron 0; IZero 4; ICron 1; IJump 5; INum 0; IZero 7; IHold; IHold", 0)
	emits(t, when(of(api.OOr, sched(0), sched(1))), 1, "ICron 0; IZero 4; INum 0; IJump 5; ICron 1; IZero 7; IHold; IHold", 1)
	emits(t, when(of(api.OIf, sched(0), sched(1), sched(2))), 1, "ICron 0; IZero 4; ICron 1; IJump 5; ICron 2; IZero 7; IHold; IHold")
	emits(t, when(of(api.OEither, sched(0), sched(1))), 1, "ITry 3; ICron 0; IDone 4; ICron 1; IZero 6; IHold; IHold")
	emits(t, simple(to(of(api.OIf, sched(0), rep, win(2)))), 1, "ICron 0; IZero 4; IRep; IJump 5; IWin 2; ITo")
	emits(t, simple(to(of(api.OEither, rep, win(2)))), 1, "ITry 3; IRep; IDone 4; IWin 2; ITo")
	// Longer parts: the places are behind all of them.
	long := plus(rep, win(1))
	emits(t, simple(to(of(api.OIf, of(api.OLess, rep, num(5)), long, neg(long)))), 2, "IRep; INum 0; ILess; IZero 8; IRep; IWin 1; IAdd; IJump 12; IRep; IWin 1; IAdd; INeg; ITo", 5)
	emits(t, simple(to(of(api.OEither, long, neg(long)))), 2, "ITry 5; IRep; IWin 1; IAdd; IDone 9; IRep; IWin 1; IAdd; INeg; ITo")
}

func TestP21_1ChoicesWithinOthers(t *testing.T) {
	when := func(c api.Core) api.Plan { return simple(hold, guard(c, hold)) }
	both, one := of(api.OAnd, sched(0), sched(1)), of(api.OOr, sched(2), sched(3))
	emits(t, when(of(api.OAnd, both, one)), 1, "ICron 0; IZero 4; ICron 1; IJump 5; INum 0; IZero 12; ICron 2; IZero 10; INum 1; IJump 11; ICron 3; IJump 13; INum 0; IZero 15; IHold; IHold", 0, 1)
	emits(t, when(of(api.OOr, both, one)), 1, "ICron 0; IZero 4; ICron 1; IJump 5; INum 0; IZero 8; INum 1; IJump 13; ICron 2; IZero 12; INum 1; IJump 13; ICron 3; IZero 15; IHold; IHold", 0, 1)
	emits(t, when(of(api.OOr, one, both)), 1, "ICron 2; IZero 4; INum 0; IJump 5; ICron 3; IZero 8; INum 0; IJump 13; ICron 0; IZero 12; ICron 1; IJump 13; INum 1; IZero 15; IHold; IHold", 1, 0)
	emits(t, simple(to(of(api.OEither, of(api.OEither, rep, win(0)), of(api.OEither, win(1), win(2))))), 1, "ITry 6; ITry 4; IRep; IDone 5; IWin 0; IDone 10; ITry 9; IWin 1; IDone 10; IWin 2; ITo")
	emits(t, simple(to(plus(of(api.OEither, rep, win(0)), of(api.OIf, one, rep, win(1))))), 2, "ITry 3; IRep; IDone 4; IWin 0; ICron 2; IZero 8; INum 0; IJump 9; ICron 3; IZero 12; IRep; IJump 13; IWin 1; IAdd; ITo", 1)
}

func TestP21_1Memos(t *testing.T) {
	emits(t, simple(to(memo(0, rep))), 1, "IHave 0:3; IRep; ISet 0; ITo")
	emits(t, simple(to(memo(8, num(5)))), 1, "IHave 8:3; INum 0; ISet 8; ITo", 5)
	x := memo(3, neg(win(0)))
	emits(t, simple(to(plus(x, x))), 2, "IHave 3:4; IWin 0; INeg; ISet 3; IHave 3:8; IWin 0; INeg; ISet 3; IAdd; ITo")
	emits(t, simple(to(x), guard(memo(2, sched(1)), by(x))), 1, "IHave 2:3; ICron 1; ISet 2; IZero 9; IHave 3:8; IWin 0; INeg; ISet 3; IBy; IHave 3:13; IWin 0; INeg; ISet 3; ITo")
	emits(t, simple(to(memo(1, plus(memo(0, rep), memo(0, rep))))), 2, "IHave 1:9; IHave 0:4; IRep; ISet 0; IHave 0:7; IRep; ISet 0; IAdd; ISet 1; ITo")
	emits(t, simple(to(memo(1, of(api.OIf, memo(0, sched(0)), rep, num(1))))), 1, "IHave 1:9; IHave 0:4; ICron 0; ISet 0; IZero 7; IRep; IJump 8; INum 0; ISet 1; ITo", 1)
	// The greatest numbers.
	p := simple(to(memo(255, rep)))
	p.Locals = 256
	emits(t, p, 1, "IHave 255:3; IRep; ISet 255; ITo")
	got, _ := Emit(p)
	if got.Code[0].A != 255*16384+3 {
		t.Error(got.Code)
	}
}

func TestP21_1Ladders(t *testing.T) {
	emits(t, simple(ladder(rep, hold)), 1, "IRep; IDrop; IHold")
	emits(t, simple(ladder(num(4), to(num(4)))), 1, "INum 0; IDrop; INum 0; ITo", 4)
	emits(t, simple(ladder(rep, num(5), hold, by(num(5)))), 3, "IRep; ICopy; INum 0; ILess; IZero 7; IDrop; IHold; IDrop; INum 0; IBy", 5)
	emits(t, simple(ladder(win(1), num(-5), hold, num(6), to(num(7)), by(num(-5)))), 3, "IWin 1; ICopy; INum 0; ILess; IZero 7; IDrop; IHold; ICopy; INum 1; ILess; IZero 14; IDrop; INum 2; ITo; IDrop; INum 0; IBy", -5, 6, 7)
	// Within others, as a rung's and as the last action.
	inner := ladder(win(1), num(2), hold, to(rep))
	emits(t, simple(ladder(rep, num(1), inner, hold)), 3, "IRep; ICopy; INum 0; ILess; IZero 16; IDrop; IWin 1; ICopy; INum 1; ILess; IZero 13; IDrop; IHold; IDrop; IRep; ITo; IDrop; IHold", 1, 2)
	emits(t, simple(ladder(rep, num(1), hold, inner)), 3, "IRep; ICopy; INum 0; ILess; IZero 7; IDrop; IHold; IDrop; IWin 1; ICopy; INum 1; ILess; IZero 15; IDrop; IHold; IDrop; IRep; ITo", 1, 2)
	emits(t, simple(ladder(rep, ladder(win(1), ladder(win(2), hold)))), 1, "IRep; IDrop; IWin 1; IDrop; IWin 2; IDrop; IHold")
	// In a guard.
	emits(t, simple(hold, guard(sched(0), ladder(rep, num(1), hold, hold))), 3, "ICron 0; IZero 11; IRep; ICopy; INum 0; ILess; IZero 9; IDrop; IHold; IDrop; IHold; IHold", 1)
}

func TestP21_1Guards(t *testing.T) {
	emits(t, simple(to(rep), guard(sched(0), hold), guard(of(api.ONot, sched(1)), to(win(0))), guard(yes, by(num(1)))), 1, "ICron 0; IZero 3; IHold; ICron 1; INot; IZero 8; IWin 0; ITo; INum 0; IZero 12; INum 0; IBy; IRep; ITo", 1)
	// What is known ahead of time is laid all the same.
	emits(t, simple(hold, guard(no, hold), guard(yes, to(fail(2, 1)))), 1, "INum 0; IZero 3; IHold; INum 1; IZero 7; IFail 2; ITo; IHold", 0, 1)
	emits(t, simple(to(plus(fail(1, 1), num(2)))), 2, "IFail 1; INum 0; IAdd; ITo", 2)
}

func TestP21_1WhatThePlanHas(t *testing.T) {
	for _, metrics := range [][]string{nil, {"a"}, {"", "a", "a", "é"}, make([]string, 64)} {
		for _, rules := range []api.Rules{{Max: 1, Step: 1}, {Min: 1, Max: 9, Step: 2, Up: 30, Down: 60}, {Min: 1000000, Max: 1000000, Step: 1000000, Up: 604800, Down: 604800}} {
			for _, locals := range []int{0, 1, 2, 255, 256} {
				p := api.Plan{Metrics: metrics, Rules: rules, Locals: locals, Final: hold}
				for i := range metrics {
					p.Wins = append(p.Wins, api.Win{Metric: i, Agg: api.ARank, Span: 7, Rank: int64(i) + 1}, api.Win{Metric: i, Agg: api.ALow, Span: 604800})
					p.Crons = append(p.Crons, daily, daily)
				}
				want := api.Program{Metrics: len(metrics), Rules: rules, Wins: p.Wins, Crons: p.Crons, Locals: locals, Code: []api.Instr{{Op: api.IHold}}}
				if got, errno := Emit(p); !sameProgram(got, want) || errno != api.OK {
					t.Errorf("Emit(%s) = %s, %d", brief(p), brief(got), errno)
				}
				sound(t, p)
			}
		}
	}
	p := api.Plan{Metrics: []string{}, Rules: api.Rules{Max: 1, Step: 1}, Wins: []api.Win{}, Crons: []api.Cron{}, Guards: []api.Guard{}, Final: api.Core{Op: api.OHold, Parts: []api.Core{}}}
	emits(t, p, 0, "IHold")
	p.Final = to(api.Core{Op: api.ONum, N: 3, Parts: []api.Core{}})
	emits(t, p, 1, "INum 0; ITo", 3)
}
