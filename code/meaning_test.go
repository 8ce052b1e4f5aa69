package code

import (
	"testing"

	"capstan/api"
	"capstan/check"
	"capstan/fold"
	"capstan/mean"
	"capstan/prune"
	"capstan/share"
)

// What a policy means behind histories, its program says, whatever passes its plan went through.
func TestP21_1PoliciesMeanTheSame(t *testing.T) {
	for _, x := range []struct {
		text string
		code string // behind all passes
	}{
		{`policy p; replicas 1..9; decide to 2[rep];`, "INum 0; ITo"},
		{`policy p; replicas 1..9; metric cpu [pct]; decide by if(avg(cpu, 1m) > 80[pct], 1[rep], 0[rep]);`, "IWin 0; IScale 0; INum 2; IMore; IZero 7; INum 3; IJump 8; INum 4; IBy"},
		{`policy p; replicas 1..9; guard cron("0 3 * * *") then to 1[rep]; decide to 6[rep];`, "ICron 0; IZero 4; INum 0; ITo; INum 1; ITo"},
		{`policy p; replicas 1..9; metric q; decide ladder sum(q, 10s) { 5: to 1[rep], 10: to 2[rep], else: hold };`, "IWin 0; ICopy; INum 0; ILess; IZero 8; IDrop; INum 1; ITo; ICopy; INum 2; ILess; IZero 15; IDrop; INum 3; ITo; IDrop; IHold"},
		{`policy p; replicas 1..9; metric q; let x = avg(q, 1m) + 1; guard x * x > 9 then to x * 1[rep]; decide to x * x * 1[rep];`, ""},
		{`policy p; replicas 1..9; metric q; let x = sum(q, 10s) / (count(q, 10s) - 1); guard either(x, 3) > 2 then by x * 1[rep]; guard x < 0 then by -1[rep]; decide to either(x, 3) * 1[rep];`, ""},
		{`policy p; replicas 1..9; metric q; let big = high(q, 1m) > 4; guard big and cron("*/2 * * * *") then by 1[rep]; guard not big or low(q, 9s) < 0 then by -1[rep]; guard big and cron("*/2 * * * *") then to 7[rep]; decide to if(big, 5[rep], 6[rep]);`, ""},
		{`policy p; replicas 1..9; metric q; decide ladder min(avg(q, 1m), 7) { -1: hold, 3: ladder abs(low(q, 1m)) { 2: by 1[rep], else: by 2[rep] }, else: to max(ceil(avg(q, 1m)), floor(3.5)) * 1[rep] };`, ""},
	} {
		p, _, errno := check.Load(x.text)
		if errno != api.OK {
			t.Fatal(x.text, errno)
		}
		made := []api.Plan{p}
		for i, pass := range []func(api.Plan) (api.Plan, api.Errno){fold.Plan, prune.Plan, share.Plan} {
			next, errno := pass(made[i])
			if errno != api.OK {
				t.Fatal(x.text, errno)
			}
			made = append(made, next)
		}
		for i, plan := range made {
			sound(t, plan)
			program, errno := Emit(plan)
			if errno != api.OK || i == 3 && x.code != "" && told(program.Code) != x.code {
				t.Errorf("%s: %s, %d", x.text, told(program.Code), errno)
			}
			meansTheSame(t, x.text, p, plan, program)
		}
	}
}

// meansTheSame wants that the program, which is made of plan, says behind histories what p means.
func meansTheSame(t *testing.T, text string, p, plan api.Plan, program api.Program) {
	t.Helper()
	var l []api.Event
	for at := range int64(60) {
		for _, late := range []int64{0, 5, 9, 100, 4 * 86400, 3*3600 - at*7} {
			want, errno := mean.Decide(p, l, at*7+late, at)
			v, why := mean.Env(plan, l, at*7+late, at)
			if got := ran(program, v); got != want || errno != api.OK || why != api.OK {
				t.Errorf("%s at %d: %v, wanted %v, %d, %d", text, at*7+late, got, want, errno, why)
			}
		}
		l = append(l, api.Event{Kind: 1 + int(at%3)/2, Value: (at*at%13 - 2) * api.One, Time: at * 7})
	}
}
