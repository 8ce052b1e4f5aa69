package mean

import (
	"slices"
	"testing"

	"capstan/api"
)

func held(reason api.Reason) api.Raw {
	return api.Raw{Hold: true, Reason: reason}
}

func TestP17_3Example(t *testing.T) {
	p := summing()
	p.Final = api.Core{Op: api.OTo, Parts: []api.Core{{Op: api.OWin}}}
	says(t, p, example(), 9, 3, api.Raw{Want: 1})
	says(t, p, example(), 15, 3, api.Raw{})
	fails(t, p, example(), 4, api.ErrStale)
	fails(t, api.Plan{}, nil, 0, api.ErrForm)
	fails(t, api.Plan{}, ticks(1), 0, api.ErrForm)
}

// The examples of the whole, as far as the rules don't bind them.
func TestP17_3ExamplesOfTheWhole(t *testing.T) {
	says(t, loaded(t, "policy p; replicas 1..9; decide to 2[rep];"), nil, 0, 3, api.Raw{Want: 2})

	avg := loaded(t, "policy p; replicas 1..9; metric cpu [pct]; decide by if(avg(cpu, 1m) > 80[pct], 1[rep], 0[rep]);")
	busy := []api.Event{sample(0, 90000000, 0)}
	says(t, avg, nil, 0, 2, held(api.NoData))
	says(t, avg, busy, 0, 2, api.Raw{Want: 3})
	says(t, avg, busy, 59, 2, api.Raw{Want: 3})
	says(t, avg, busy, 60, 2, held(api.NoData))
	says(t, avg, append(busy, sample(0, 70000000, 30)), 30, 2, api.Raw{Want: 2})
	says(t, avg, append(busy, sample(0, 70000001, 30)), 30, 2, api.Raw{Want: 2}) // rounded down
	says(t, avg, append(busy, sample(0, 70000200, 30)), 30, 2, api.Raw{Want: 3})

	either := loaded(t, "policy p; replicas 1..9; metric cpu [pct]; decide by if(either(avg(cpu, 1m), 0) > 80[pct], 1[rep], 0[rep]);")
	says(t, either, nil, 0, 2, api.Raw{Want: 2})
	says(t, either, busy, 0, 2, api.Raw{Want: 3})

	ladder := loaded(t, "policy p; replicas 1..9; metric q; decide ladder sum(q, 10s) { 5: to 1[rep], 10: to 2[rep], else: hold };")
	four, one := sample(0, 4000000, 0), sample(0, 1000000, 5)
	says(t, ladder, nil, 0, 4, api.Raw{Want: 1})
	says(t, ladder, []api.Event{four}, 0, 4, api.Raw{Want: 1})
	says(t, ladder, []api.Event{four, one}, 5, 4, api.Raw{Want: 2})
	says(t, ladder, []api.Event{four, one}, 10, 4, api.Raw{Want: 1})
	says(t, ladder, []api.Event{four, one, sample(0, 9000000, 5)}, 5, 4, held(api.Asked))
}

// What is wanted isn't bound by the rules: that is for a later layer.
func TestP17_3NotBound(t *testing.T) {
	p := loaded(t, "policy p; replicas 2..9 step 2; cooldown up 30s; metric q [rep]; decide to sum(q, 10s);")
	says(t, p, nil, 0, 3, api.Raw{})
	says(t, p, []api.Event{sample(0, 70*api.One, 0), tick(0)}, 0, 3, api.Raw{Want: 70})
	says(t, p, []api.Event{sample(0, -70*api.One, 0), tick(1)}, 1, 3, api.Raw{Want: -70})
}

func TestP17_3Guards(t *testing.T) {
	p := loaded(t, `policy p; replicas 1..9; metric a; metric b;
		guard count(a, 1m) < 2 then hold;
		guard low(b, 10s) > 5 then by 2[rep];
		guard rank(a, 1m, 50) = 7 then to 4[rep];
		decide by -1[rep];`)
	a := func(value, time int64) api.Event { return sample(0, value*api.One, time) }
	b := func(value, time int64) api.Event { return sample(1, value*api.One, time) }
	says(t, p, nil, 0, 3, held(api.Asked))
	says(t, p, []api.Event{a(1, 0), b(6, 0)}, 0, 3, held(api.Asked))
	says(t, p, []api.Event{a(1, 0), a(1, 0)}, 0, 3, held(api.NoData))
	says(t, p, []api.Event{a(1, 0), a(1, 0), b(6, 0)}, 9, 3, api.Raw{Want: 5})
	says(t, p, []api.Event{a(1, 0), a(1, 0), b(6, 0)}, 10, 3, held(api.NoData))
	says(t, p, []api.Event{a(1, 0), a(1, 0), b(6, 0), b(5, 1)}, 10, 3, api.Raw{Want: 2})
	says(t, p, []api.Event{a(7, 0), a(8, 0), b(6, 0), b(5, 1)}, 10, 3, api.Raw{Want: 4})
	says(t, p, []api.Event{a(7, 0), a(8, 1), b(5, 59)}, 60, 3, held(api.Asked))
	// Late samples, and those of metrics that there are not, say nothing.
	late := []api.Event{a(1, 5), a(1, 4), sample(2, 9, 7), {Kind: 9, Time: 99}}
	says(t, p, late, 6, 3, held(api.Asked))
	says(t, p, append(late, a(1, 5), b(5, 5)), 6, 3, api.Raw{Want: 2})
}

func TestP17_3Reasons(t *testing.T) {
	p := loaded(t, "policy p; replicas 1..9; metric a; metric b; decide to sum(a, 10s) / sum(b, 10s) * 1[rep];")
	says(t, p, nil, 0, 3, held(api.DivZero))
	says(t, p, []api.Event{sample(0, 8, 0), sample(1, 2, 0)}, 0, 3, api.Raw{Want: 4})
	says(t, p, []api.Event{sample(0, 8, 0), sample(1, 2, 0), sample(1, -2, 0)}, 0, 3, held(api.DivZero))
	says(t, p, []api.Event{sample(0, most, 0), sample(0, 1, 0)}, 0, 3, held(api.Taint))
	says(t, p, []api.Event{sample(0, most, 0), sample(0, 1, 0), sample(0, -1, 0), sample(1, most, 0)}, 0, 3, api.Raw{Want: 1})
}

// At each tick of a run what is decided hangs on the events up to it alone.
func TestP17_3Runs(t *testing.T) {
	p := loaded(t, "policy p; replicas 1..9; metric q [rep]; decide to high(q, 5s);")
	l := []api.Event{sample(0, 3*api.One, 0), tick(1), sample(0, 2*api.One, 2), tick(4), tick(3), tick(5), sample(0, 9*api.One, 4), tick(7), sample(0, api.One, 7), tick(7)}
	wants := []api.Raw{{Want: 3}, {Want: 3}, {}, {Want: 2}, held(api.NoData), {Want: 1}}
	i := 0
	for place, e := range l {
		if e.Kind != api.ETick {
			continue
		}
		if e.Time == 3 {
			fails(t, p, l[:place+1], 3, api.ErrStale)
		} else {
			says(t, p, l[:place+1], e.Time, 2, wants[i])
			says(t, p, l[:place], e.Time, 2, wants[i])
		}
		i++
	}
	if i != len(wants) || !slices.Equal(Taken(p, l), slices.Concat(l[:4], l[5:6], l[7:])) {
		t.Error(i, Taken(p, l))
	}
}
