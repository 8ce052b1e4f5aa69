package share

import (
	"testing"

	"capstan/api"
	"capstan/check"
	"capstan/mean"
)

// What a policy says behind histories, it says when its plan is shared.
func TestP20_2PoliciesAreTheSame(t *testing.T) {
	for _, x := range []struct {
		text                string
		wins, crons, locals int
	}{
		{`policy p; replicas 1..9; metric q; decide to avg(q, 1m) * 1[rep];`, 1, 0, 0},
		{`policy p; replicas 1..9; metric q; guard avg(q, 1m) > 5 then to avg(q, 1m) * 1[rep]; decide to avg(q, 2m) * 1[rep];`, 2, 0, 0},
		{`policy p; replicas 1..9; metric q; let x = avg(q, 1m) + 1; guard x < low(q, 1m) + 3 then hold; decide to x * 1[rep];`, 2, 0, 1},
		{`policy p; replicas 1..9; metric q; let x = avg(q, 1m) + 1; guard x * x > 9 then to x * 1[rep]; decide to x * x * 1[rep];`, 1, 0, 2},
		{`policy p; replicas 1..9; metric q; guard cron("* * * * 1") then to 2[rep]; guard not cron("* * * * 1") and sum(q, 10s) / 0 > 1 then hold; decide ladder sum(q, 10s) / 0 { 5: hold, else: by 1[rep] };`, 1, 1, 1},
		{`policy p; replicas 1..9; metric q; let x = sum(q, 10s) / (count(q, 10s) - 1); guard either(x, 3) > 2 then by x * 1[rep]; guard x < 0 then by -1[rep]; decide to either(x, 3) * 1[rep];`, 2, 0, 2},
		{`policy p; replicas 1..9; metric q; let big = high(q, 1m) > 4; guard big and cron("*/2 * * * *") then by 1[rep]; guard not big then by -1[rep]; guard big and cron("*/2 * * * *") then to 7[rep]; decide to if(big, 5[rep], 6[rep]);`, 1, 1, 2},
	} {
		p, _, errno := check.Load(x.text)
		if errno != api.OK {
			t.Fatal(x.text, errno)
		}
		shared, errno := Plan(p)
		if errno != api.OK || len(shared.Wins) != x.wins || len(shared.Crons) != x.crons || shared.Locals != x.locals {
			t.Errorf("%s: %s, %d", x.text, brief(shared), errno)
		}
		var l []api.Event
		for at := range int64(60) {
			for _, late := range []int64{0, 5, 9, 100, 4 * 86400} {
				says, errno := mean.Decide(p, l, at*7+late, at)
				if got, why := mean.Decide(shared, l, at*7+late, at); got != says || why != errno || errno != api.OK {
					t.Errorf("%s at %d: %v, %d, wanted %v, %d", x.text, at*7+late, got, why, says, errno)
				}
			}
			l = append(l, api.Event{Kind: 1 + int(at%3)/2, Value: (at*at%13 - 2) * api.One, Time: at * 7})
		}
		// A moment that has gone by is one for both.
		if _, errno := mean.Decide(shared, l, 0, 1); errno != api.ErrStale {
			t.Errorf("%s: %d", x.text, errno)
		}
	}
}
