package prune

import (
	"testing"

	"capstan/api"
	"capstan/check"
	"capstan/core"
	"capstan/mean"
)

// What a policy says behind histories, it says when its plan is pruned.
func TestP19_2PoliciesAreTheSame(t *testing.T) {
	const whole = 1000000
	for _, x := range []struct {
		text                string
		guards, wins, crons int
		final               api.Core
	}{
		{`policy p; replicas 1..9; metric q; guard false then to sum(q, 1m) * 1[rep]; decide to max(avg(q, 1m), 1) * 1[rep];`, 0, 1, 0, of(api.OTo, of(api.OMul, of(api.OMax, win(0), num(whole)), num(whole)))},
		{`policy p; replicas 1..9; metric q; guard cron("* * * * 1") then to 2[rep]; guard avg(q, 1m) > 5 then to 3[rep]; guard true then by 1[rep]; guard cron("0 * * * *") then hold; decide to low(q, 1m) * 1[rep];`, 2, 1, 1, by(whole)},
		{`policy p; replicas 1..9; metric q; decide ladder sum(q, 10s) { 5: hold, 7: hold, 9: to 1[rep], else: to 1[rep] };`, 0, 1, 0, ladder(win(0), num(7*whole), hold, to(whole))},
		{`policy p; replicas 1..9; metric q; decide ladder avg(q, 10s) { 5: to 3[rep], else: to 3[rep] };`, 0, 1, 0, ladder(win(0), to(3*whole))}, // NoData where nothing was measured
		{`policy p; replicas 1..9; metric q; decide ladder high(q, 1m) { 5: ladder replicas { 1[rep]: hold, else: hold }, 9: ladder replicas { else: hold }, else: by 1[rep] };`, 0, 1, 0, ladder(win(0), num(9*whole), ladder(rep, hold), by(whole))},
		// Each place has a window of its own, so these actions aren't alike.
		{`policy p; replicas 1..9; metric q; decide ladder high(q, 1m) { 5: ladder low(q, 1m) { 1: hold, else: hold }, 9: ladder low(q, 1m) { else: hold }, else: by 1[rep] };`, 0, 3, 0, ladder(win(0), num(5*whole), ladder(win(1), hold), num(9*whole), ladder(win(2), hold), by(whole))},
		{`policy p; replicas 1..9; metric q; guard 1 > 2 then hold; decide to replicas;`, 1, 0, 0, of(api.OTo, rep)},
	} {
		p, _, errno := check.Load(x.text)
		if errno != api.OK {
			t.Fatal(x.text, errno)
		}
		pruned, errno := Plan(p)
		if errno != api.OK || len(pruned.Guards) != x.guards || len(pruned.Wins) != x.wins || len(pruned.Crons) != x.crons || !core.Same(pruned.Final, x.final) {
			t.Errorf("%s: %s, %d", x.text, brief(pruned), errno)
		}
		var l []api.Event
		for at := range int64(60) {
			for _, late := range []int64{0, 5, 9, 100, 4 * 86400} {
				says, errno := mean.Decide(p, l, at*7+late, at)
				if got, why := mean.Decide(pruned, l, at*7+late, at); got != says || why != errno || errno != api.OK {
					t.Errorf("%s at %d: %v, %d, wanted %v, %d", x.text, at*7+late, got, why, says, errno)
				}
			}
			l = append(l, api.Event{Kind: 1 + int(at%3)/2, Value: (at*at%13 - 2) * whole, Time: at * 7})
		}
		// A moment that has gone by is one for both.
		if _, errno := mean.Decide(pruned, l, 0, 1); errno != api.ErrStale {
			t.Errorf("%s: %d", x.text, errno)
		}
	}
}

// The metrics stay, so the same events are taken: a window that is left out doesn't set back the clock.
func TestP19_2SameEventsAreTaken(t *testing.T) {
	p := watching(2, 0, of(api.OTo, win(1)), guard(no, of(api.OTo, win(0))))
	p.Metrics = []string{"a", "b"}
	p.Wins[0].Metric = 1
	p.Wins[1].Span = 10
	pruned, _ := Plan(p)
	l := []api.Event{{Kind: api.ESample, Value: api.One, Time: 1}, {Kind: api.ESample, Id: 1, Value: 5, Time: 9}, {Kind: api.ESample, Value: api.One, Time: 5}, {Kind: api.ESample, Id: 2, Time: 99}}
	for at := int64(9); at < 20; at++ {
		want, errno := mean.Decide(p, l, at, 1)
		if got, why := mean.Decide(pruned, l, at, 1); got != want || why != errno || errno != api.OK {
			t.Errorf("at %d: %v, %d, wanted %v, %d", at, got, why, want, errno)
		}
	}
	if got, errno := mean.Decide(pruned, l, 8, 1); got != (api.Raw{}) || errno != api.ErrStale {
		t.Error(got, errno)
	}
}
