package vm

import (
	"strings"
	"testing"

	"capstan/api"
)

// failing answers an Env of a full program in which that window has that reason, and the others are 70, 80 and 90.
func failing(window int, reason api.Reason) api.Env {
	v := env()
	v.Wins[1] = api.Result{N: 80000000}
	v.Wins[window] = api.Result{Reason: reason}
	return v
}

func TestP24_1Tries(t *testing.T) {
	code := full("ITry 3, IWin 1, IDone 4, INum 4, ITo")
	runs(t, code, env(), wants(5), 4)
	runs(t, code, failing(0, api.Taint), wants(80), 4)
	// Behind its end a try is shut: a reason there is the run's.
	runs(t, full("ITry 3, IWin 0, IDone 4, INum 4, IWin 1, IAdd, ITo"), env(), holds(api.NoData), 4)
	runs(t, full("ITry 3, IWin 1, IDone 4, IFail 3, ITo"), env(), holds(api.Taint), 3)
	// It may be ended late.
	runs(t, full("ITry 7, IRep, INum 0, IMul, IFail 2, IAdd, IDone 8, INum 1, ITo"), env(), wants(2), 7)
}

func TestP24_1TriesWithinOthers(t *testing.T) {
	// either(either(W0, W1), W2) and either(W0, either(W1, W2)), by which of them fail.
	left := full("ITry 6, ITry 4, IWin 0, IDone 5, IWin 1, IDone 7, IWin 2, ITo")
	right := full("ITry 3, IWin 0, IDone 7, ITry 6, IWin 1, IDone 7, IWin 2, ITo")
	for _, x := range []struct {
		fails       [3]bool
		want        api.Raw
		left, right int
	}{
		{[3]bool{}, wants(70), 6, 4},
		{[3]bool{true, false, false}, wants(80), 6, 6},
		{[3]bool{true, true, false}, wants(90), 6, 6},
		{[3]bool{true, true, true}, holds(7), 5, 5},
		{[3]bool{false, true, true}, wants(70), 6, 4},
	} {
		v := failing(0, 5)
		for i, fails := range x.fails {
			v.Wins[i] = api.Result{N: int64(70+10*i) * api.One}
			if fails {
				v.Wins[i] = api.Result{Reason: api.Reason(5 + i)}
			}
		}
		runs(t, left, v, x.want, x.left)
		runs(t, right, v, x.want, x.right)
	}
}

// Each reason ends the latest one that is open.
func TestP24_1TheLatestTry(t *testing.T) {
	code := "ITry 9, ITry 7, ITry 5, IFail 1, IDone 6, IFail 2, IDone 8, IFail 3, IDone 10, INum 0, ITo"
	runs(t, full(code), env(), wants(1), 8)
	for _, at := range []int{3, 5, 7} {
		p := full(code)
		p.Code[at] = api.Instr{Op: api.IRep}
		runs(t, p, env(), wants(6), 8)
	}
	// The inner one is shut: a reason ends the outer one.
	runs(t, full("ITry 8, ITry 4, IRep, IDone 5, INum 0, IFail 1, IDrop, IDone 9, INum 4, ITo"), env(), wants(5), 7)
	// The outer one is shut, too; one behind them is another one.
	runs(t, full("ITry 6, ITry 4, IRep, IDone 5, INum 0, IDone 7, INum 4, ITry 10, IFail 1, IDone 11, INum 3, IAdd, ITo"), env(), wants(10), 10)
}

// The stack is what it was when the try was opened, whatever was taken from it and put there since.
func TestP24_1TheStackAsItWas(t *testing.T) {
	for _, within := range []string{
		"IDrop, INum 4, %, IDrop", "IDrop, IDrop, INum 4, %", "INeg, %, IDrop", "INeg, INeg, %, IDrop", "IAdd, INum 4, %, IDrop", "IDrop, IDrop, %, ICopy", "IDrop, INeg, %",
		"INum 4, INum 3, INum 2, %, IDrop*4", "IAdd, ICopy, ICopy, %, IDrop*2", "IDrop, IDrop, INum 4, INum 3, INum 2, INum 2, %, IDrop*3", "IDrop, INum 4, IDrop, INum 3, IDrop, INum 2, %, IDrop",
	} {
		// 0.5 less 1.5; and with as many more beneath, and room for none or for many behind.
		leaves(t, trying("INum 0, INum 1", within, "ISub, ITo"), env(), -1000000)
		leaves(t, trying("INum 3*7, INum 0, INum 1", within, "ISub, IDrop, IAdd*6, ITo"), env(), 7*3500000)
		leaves(t, trying("INum 3*9, IDrop*9, INum 0, INum 1", within, "ISub, ITo"), env(), -1000000)
	}
}

// trying answers a program of code ahead of a try, within it (the reason standing in the place of %), and behind it.
func trying(ahead, within, behind string) api.Program {
	p := full(ahead + ", ITry 0, " + strings.Replace(within, "%", "IFail 1", 1) + ", IDone 0")
	end := int64(len(p.Code))
	p.Code[len(instructions(ahead))].A, p.Code[end-1].A = end, end
	p.Code = append(p.Code, instructions(behind)...)
	return p
}

// Of two tries each goes back to its own stack.
func TestP24_1TwoStacksAsTheyWere(t *testing.T) {
	// Within the outer one 1.5 is taken and 2.5 put there; within the inner one 2.5 is taken and 4.5 put there.
	leaves(t, full("INum 0, INum 1, ITry 14, IDrop, INum 2, ITry 11, IDrop, INum 4, IFail 1, IDrop, IDone 11, IFail 2, IDrop, IDone 14, ISub, ITo"), env(), -1000000)
	leaves(t, full("INum 0, INum 1, ITry 12, IDrop, INum 2, ITry 11, IDrop, INum 4, IFail 1, IDrop, IDone 11, IDone 12, ISub, ITo"), env(), -2000000)
	// The inner one ends well, the outer one doesn't.
	leaves(t, full("INum 0, INum 1, ITry 12, IDrop, INum 2, ITry 9, IDrop, INum 4, IDone 9, IFail 2, IDrop, IDone 12, ISub, ITo"), env(), -1000000)
	leaves(t, full("INum 0, INum 1, ITry 10, IDrop, INum 2, ITry 9, IDrop, INum 4, IDone 9, IDone 10, ISub, ITo"), env(), -4000000)
	// One behind the other: the second goes back to what was put there behind the first.
	leaves(t, full("INum 0, INum 1, ITry 7, IDrop, INum 2, IFail 1, IDone 8, INum 3, INeg, ITry 15, IAdd, IAdd, IFail 1, ICopy, IDone 15, IAdd, ISub, ITo"), env(), 2500000)
}
