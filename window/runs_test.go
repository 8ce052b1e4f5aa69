package window

import (
	"math/big"
	"math/rand"
	"slices"
	"testing"

	"capstan/api"
)

// plain is a window by the chapter's words: all samples that it ever took, looked through at each
// question, and reckoned without bounds.
type plain struct {
	terms   api.Win
	all     []api.Sample
	clock   int64
	clocked bool
}

func (p *plain) stale(t int64) bool {
	return p.clocked && t < p.clock
}

func (p *plain) put(s api.Sample) api.Errno {
	if p.stale(s.Time) {
		return api.ErrStale
	}
	p.clock, p.clocked = s.Time, true
	p.all = append(p.all, s)
	return api.OK
}

func (p *plain) held(t int64) ([]api.Sample, api.Errno) {
	if p.stale(t) {
		return nil, api.ErrStale
	}
	p.clock, p.clocked = t, true
	list := []api.Sample{}
	for i, s := range p.all {
		newest := len(p.all)-i <= 4096
		age := new(big.Int).Sub(big.NewInt(t), big.NewInt(s.Time))
		if newest && age.Cmp(big.NewInt(p.terms.Span)) < 0 {
			list = append(list, s)
		}
	}
	return list, api.OK
}

func (p *plain) read(t int64) (api.Result, api.Errno) {
	list, errno := p.held(t)
	if errno != api.OK {
		return api.Result{}, errno
	}
	values := []int64{}
	for _, s := range list {
		values = append(values, s.Value)
	}
	return toldOf(p.terms, values), api.OK
}

// toldOf answers what the terms ask of the values.
func toldOf(w api.Win, values []int64) api.Result {
	sum, count := new(big.Int), big.NewInt(int64(len(values)))
	for _, v := range values {
		sum.Add(sum, big.NewInt(v))
	}
	switch {
	case w.Agg == api.ASum && !sum.IsInt64():
		return api.Result{Reason: api.Taint}
	case w.Agg == api.ASum:
		return api.Result{N: sum.Int64()}
	case w.Agg == api.ACount:
		return api.Result{N: int64(len(values)) * 1000000}
	case len(values) == 0:
		return api.Result{Reason: api.NoData}
	case w.Agg == api.AAvg:
		return api.Result{N: new(big.Int).Div(sum, count).Int64()} // Euclid's: down, as count is above 0
	case w.Agg == api.ALow:
		return api.Result{N: slices.Min(values)}
	case w.Agg == api.AHigh:
		return api.Result{N: slices.Max(values)}
	}
	rising := slices.Sorted(slices.Values(values))
	k := 0 // the least k that is at least Rank percent of all
	for int64(k)*100000000 < w.Rank*int64(len(values)) {
		k++
	}
	return api.Result{N: rising[k-1]}
}

// step makes one call on both, and looks whether they agree.
func step(t *testing.T, w *Window, p *plain, call int, s api.Sample) {
	t.Helper()
	switch call {
	case 0:
		want := p.put(s)
		if errno := w.Put(s); errno != want {
			t.Fatal(p.terms, "Put:", s, errno, "wanted", want)
		}
	case 1:
		want, why := p.read(s.Time)
		if r, errno := w.Read(s.Time); r != want || errno != why {
			t.Fatal(p.terms, "Read:", s.Time, r, errno, "wanted", want, why)
		}
	default:
		want, why := p.held(s.Time)
		if list, errno := w.Held(s.Time); !slices.Equal(list, want) || errno != why {
			t.Fatal(p.terms, "Held:", s.Time, list, errno, "wanted", want, why)
		}
	}
	if time, ok := w.Clock(); time != p.clock || ok != p.clocked {
		t.Fatal(p.terms, "Clock:", time, ok, "wanted", p.clock, p.clocked)
	}
}

// every makes every run of that many calls, at few times and of few values.
func every(t *testing.T, terms api.Win, depth int, run []int) {
	if len(run) < depth {
		for call := range 4 * 3 {
			every(t, terms, depth, append(run, call))
		}
		return
	}
	w, p := made(t, terms), &plain{terms: terms}
	for i, call := range run {
		s := api.Sample{Time: int64(call % 4), Value: int64(i*i*7%5 - 2)}
		step(t, w, p, call/4, s)
	}
	step(t, w, p, 1, api.Sample{Time: p.clock})
	step(t, w, p, 2, api.Sample{Time: p.clock})
}

func TestP8EveryShortRun(t *testing.T) {
	for _, agg := range aggs() {
		for _, span := range []int64{1, 2, 3} {
			every(t, terms(agg, span), 3, nil)
		}
		every(t, terms(agg, 2), 4, nil)
	}
}

// longRun makes any run of calls on a window and on a plain one.
func longRun(t *testing.T, random *rand.Rand, terms api.Win, steps int, start, stride int64, value func() int64) {
	t.Helper()
	w, p := made(t, terms), &plain{terms: terms}
	now := start
	for range steps {
		call := max(0, random.Intn(5)-2)
		time := now
		switch random.Intn(10) {
		case 0:
			time = now - random.Int63n(3) // often stale
		case 1, 2, 3, 4:
			// One time, again.
		default:
			time = now + random.Int63n(stride)
		}
		if time > now {
			now = time
		}
		step(t, w, p, call, api.Sample{Time: time, Value: value()})
	}
}

func TestP8AgreesWithAPlainList(t *testing.T) {
	random := rand.New(rand.NewSource(8))
	for range 40 {
		for _, agg := range aggs() {
			w := terms(agg, 1+random.Int63n(40))
			if agg == api.ARank {
				w.Rank = 1 + random.Int63n(100000000)
			}
			stride := 1 + random.Int63n(12)
			longRun(t, random, w, 150, random.Int63n(200)-100, stride, func() int64 { return random.Int63n(9) - 4 })
			longRun(t, random, w, 150, least+5, stride, func() int64 { return int64(random.Uint64()) })
			ends := []int64{least, least + 1, -1, 0, 1, most - 1, most}
			longRun(t, random, w, 150, most-200*stride, stride, func() int64 { return ends[random.Intn(len(ends))] })
		}
	}
}

// Times that leap all over int64.
func TestP8AgreesWithAPlainListAtLeaps(t *testing.T) {
	random := rand.New(rand.NewSource(88))
	for range 300 {
		for _, agg := range aggs() {
			w := terms(agg, api.MaxSpan)
			n, p := made(t, w), &plain{terms: w}
			for _, time := range leaps(random) {
				step(t, n, p, max(0, random.Intn(4)-1), api.Sample{Time: time, Value: int64(random.Uint64())})
			}
		}
	}
}

// leaps answers times from all of int64, some of them near one another, most of them rising.
func leaps(random *rand.Rand) []int64 {
	times := []int64{least, most}
	for range 10 {
		time := int64(random.Uint64())
		for _, near := range []int64{0, 1, api.MaxSpan - 1, api.MaxSpan, api.MaxSpan + 1} {
			if random.Intn(2) == 0 && time < most-near {
				times = append(times, time+near)
			}
		}
	}
	slices.Sort(times)
	i, j := random.Intn(len(times)), random.Intn(len(times))
	times[i], times[j] = times[j], times[i]
	return times[random.Intn(2):]
}

// More samples than a window holds, of few times, held against a plain list at some steps.
func TestP8AgreesBeyondMaxSamples(t *testing.T) {
	random := rand.New(rand.NewSource(888))
	for _, agg := range aggs() {
		for _, span := range []int64{3, 500} {
			w := terms(agg, span)
			n, p := made(t, w), &plain{terms: w}
			now := int64(-5)
			for i := range 3 * api.MaxSamples {
				if random.Intn(900) == 0 {
					now += random.Int63n(3)
				}
				step(t, n, p, 0, api.Sample{Time: now, Value: int64(random.Uint64()) >> random.Intn(64)})
				if i%251 == 0 || i == api.MaxSamples-1 || i == api.MaxSamples || i == api.MaxSamples+1 {
					step(t, n, p, 1, api.Sample{Time: now})
					step(t, n, p, 2, api.Sample{Time: now})
				}
			}
			for range 5 {
				now += 1 + span/4
				step(t, n, p, 1, api.Sample{Time: now})
				step(t, n, p, 2, api.Sample{Time: now})
			}
		}
	}
}

// Very many samples, each followed by a question: what is told is at hand, not looked for through
// all that is held.
func TestP8VeryManySamples(t *testing.T) {
	for _, agg := range aggs() {
		w := made(t, terms(agg, 1000))
		const count = 300000
		for i := range int64(count) {
			time := i / 5
			put(t, w, at(time, i)...)
			if r, errno := w.Read(time); errno != api.OK || r.Reason != api.Fine {
				t.Fatal(i, r, errno)
			}
		}
		last := int64(count - 1)
		says(t, w, last/5, manyOf(agg, last-api.MaxSamples+1, last))
	}
}

// What is too old isn't kept, even if nothing is ever asked.
func TestP8TheOldAreNotKept(t *testing.T) {
	for _, agg := range aggs() {
		w := made(t, terms(agg, 2))
		for i := range int64(100000) {
			put(t, w, at(i, i)...)
			if w.Len() > 2 || w.order.Len() > 2 || w.best.Len() > 2 {
				t.Fatal(w.Len(), w.order.Len(), w.best.Len())
			}
		}
	}
}
