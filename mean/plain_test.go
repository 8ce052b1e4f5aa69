package mean

import (
	"math/big"
	"slices"
	"time"

	"capstan/api"
	"capstan/core"
)

// A second way: each event is held against all that were taken ahead of it, and a window's samples
// are looked through anew.

func plainTaken(metrics int, l []api.Event) []api.Event {
	var list []api.Event
	for _, e := range l {
		isSample := e.Kind == api.ESample && 0 <= e.Id && e.Id < metrics
		later := slices.ContainsFunc(list, func(ahead api.Event) bool { return ahead.Time > e.Time })
		if (isSample || e.Kind == api.ETick) && !later {
			list = append(list, e)
		}
	}
	return list
}

func plainEnv(p api.Plan, l []api.Event, t, rep int64) (api.Env, api.Errno) {
	if !core.Formed(p) {
		return api.Env{}, api.ErrForm
	}
	list := plainTaken(len(p.Metrics), l)
	if n := len(list); n > 0 && t < list[n-1].Time {
		return api.Env{}, api.ErrStale
	}
	v := api.Env{Rep: rep}
	for _, w := range p.Wins {
		v.Wins = append(v.Wins, plainTold(w, plainHeld(w, list, t)))
	}
	for _, c := range p.Crons {
		v.Crons = append(v.Crons, plainNames(c, t))
	}
	return v, api.OK
}

// plainHeld answers the values that a window holds at t, the newest first.
func plainHeld(w api.Win, list []api.Event, t int64) []*big.Int {
	var values []*big.Int
	count := 0
	for _, e := range slices.Backward(list) {
		if e.Kind != api.ESample || e.Id != w.Metric || count == 4096 {
			continue
		}
		count++
		if age := new(big.Int).Sub(big.NewInt(t), big.NewInt(e.Time)); age.Cmp(big.NewInt(w.Span)) < 0 {
			values = append(values, big.NewInt(e.Value))
		}
	}
	return values
}

func plainTold(w api.Win, values []*big.Int) api.Result {
	count := int64(len(values))
	sum := new(big.Int)
	for _, v := range values {
		sum.Add(sum, v)
	}
	switch {
	case w.Agg == api.ACount:
		return api.Result{N: count * 1000000}
	case w.Agg == api.ASum && !sum.IsInt64():
		return api.Result{Reason: api.Taint}
	case w.Agg == api.ASum:
		return api.Result{N: sum.Int64()}
	case count == 0:
		return api.Result{Reason: api.NoData}
	case w.Agg == api.AAvg: // Div rounds down where what it divides by is above 0
		return api.Result{N: sum.Div(sum, big.NewInt(count)).Int64()}
	}
	slices.SortFunc(values, (*big.Int).Cmp)
	place := int64(0)
	switch w.Agg {
	case api.AHigh:
		place = count - 1
	case api.ARank:
		place = (w.Rank*count+99999999)/100000000 - 1
	}
	return api.Result{N: values[place].Int64()}
}

// plainNames asks of years that the library's dates can tell.
func plainNames(c api.Cron, t int64) bool {
	at := time.Unix(t, 0).UTC()
	has := func(bits uint64, n int) bool { return bits&(1<<n) != 0 }
	return has(c.Minute, at.Minute()) && has(c.Hour, at.Hour()) && has(c.Day, at.Day()) &&
		has(c.Month, int(at.Month())) && has(c.Week, int(at.Weekday()))
}
