package mean

import (
	"iter"
	"math"

	"capstan/api"
)

// taken goes over the events of l that are taken, where there are so many metrics.
func taken(metrics int, l []api.Event) iter.Seq[api.Event] {
	return func(yield func(api.Event) bool) {
		takes := taker(metrics)
		for _, e := range l {
			if takes(e) && !yield(e) {
				return
			}
		}
	}
}

// taker answers a function that is asked of event by event whether it is taken. What it keeps
// between two of them is the clock.
func taker(metrics int) func(api.Event) bool {
	clock := int64(math.MinInt64) // as good as none: no time is below it
	return func(e api.Event) bool {
		if !known(e, metrics) || e.Time < clock {
			return false
		}
		clock = e.Time
		return true
	}
}

// known answers whether e is a tick, or a sample of one of so many metrics.
func known(e api.Event, metrics int) bool {
	switch e.Kind {
	case api.ESample:
		return e.Id >= 0 && e.Id < metrics
	case api.ETick:
		return true
	}
	return false
}
