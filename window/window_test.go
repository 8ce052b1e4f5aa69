package window

import (
	"go/parser"
	"go/token"
	"math"
	"path/filepath"
	"slices"
	"strconv"
	"strings"
	"testing"

	"capstan/api"
)

const (
	least = math.MinInt64
	most  = math.MaxInt64
)

// aggs answers all aggregates.
func aggs() []int {
	return []int{api.ASum, api.AAvg, api.ALow, api.AHigh, api.ACount, api.ARank}
}

// terms answers right terms: of ARank for the median.
func terms(agg int, span int64) api.Win {
	w := api.Win{Agg: agg, Span: span}
	if agg == api.ARank {
		w.Rank = 50000000
	}
	return w
}

// made answers a new window of these terms that has taken the samples.
func made(t *testing.T, w api.Win, samples ...api.Sample) *Window {
	t.Helper()
	n, errno := New(w)
	if n == nil || errno != api.OK {
		t.Fatal("New:", w, n, errno)
	}
	put(t, n, samples...)
	return n
}

// put hands samples over, all of which are to be taken.
func put(t *testing.T, w *Window, samples ...api.Sample) {
	t.Helper()
	for _, s := range samples {
		if errno := w.Put(s); errno != api.OK {
			t.Fatal("Put:", s, errno)
		}
	}
}

// at answers a sample of each value, all of that time.
func at(time int64, values ...int64) []api.Sample {
	list := []api.Sample{}
	for _, v := range values {
		list = append(list, api.Sample{Time: time, Value: v})
	}
	return list
}

// reads asks what is told at that time.
func reads(t *testing.T, w *Window, time int64, want api.Result) {
	t.Helper()
	if r, errno := w.Read(time); r != want || errno != api.OK {
		t.Fatal("Read:", time, r, errno, "wanted", want)
	}
}

// says asks for a number at that time.
func says(t *testing.T, w *Window, time, n int64) {
	t.Helper()
	reads(t, w, time, api.Result{N: n})
}

// holds asks what is held at that time.
func holds(t *testing.T, w *Window, time int64, want ...api.Sample) {
	t.Helper()
	if list, errno := w.Held(time); !slices.Equal(list, want) || errno != api.OK {
		t.Fatal("Held:", time, list, errno, "wanted", want)
	}
}

// clock asks the clock.
func clock(t *testing.T, w *Window, want int64, there bool) {
	t.Helper()
	if time, ok := w.Clock(); time != want || ok != there {
		t.Fatal("Clock:", time, ok, "wanted", want, there)
	}
}

// refuses hands and asks that time, with each call, and wants the error.
func refuses(t *testing.T, w *Window, time int64, want api.Errno) {
	t.Helper()
	if errno := w.Put(api.Sample{Time: time, Value: 7}); errno != want {
		t.Fatal("Put:", time, errno, "wanted", want)
	}
	if r, errno := w.Read(time); r != (api.Result{}) || errno != want {
		t.Fatal("Read:", time, r, errno, "wanted", want)
	}
	if list, errno := w.Held(time); len(list) != 0 || errno != want {
		t.Fatal("Held:", time, list, errno, "wanted", want)
	}
}

// three answers the samples of the chapter's examples.
func three() []api.Sample {
	return []api.Sample{{Time: 0, Value: 5}, {Time: 4, Value: 6}, {Time: 9, Value: 7}}
}

func TestP8_1RightAtTheEdges(t *testing.T) {
	for _, x := range []struct {
		w    api.Win
		want bool
	}{
		{api.Win{}, false},
		{api.Win{Agg: api.ASum, Span: 1}, true},
		{api.Win{Agg: api.ASum, Span: 1, Metric: -1}, false},
		{api.Win{Agg: api.ASum, Span: 1, Metric: math.MinInt}, false},
		{api.Win{Agg: api.ASum, Span: 1, Metric: 1}, true},
		{api.Win{Agg: api.ASum, Span: 1, Metric: api.MaxMetrics}, true}, // how many metrics there are, a window doesn't know
		{api.Win{Agg: api.ASum, Span: 1, Metric: math.MaxInt}, true},
		{api.Win{Agg: api.ASum - 1, Span: 1}, false},
		{api.Win{Agg: -1, Span: 1}, false},
		{api.Win{Agg: math.MinInt, Span: 1}, false},
		{api.Win{Agg: api.ACount, Span: 1}, true},
		{api.Win{Agg: api.ARank, Span: 1, Rank: 1}, true},
		{api.Win{Agg: api.ARank + 1, Span: 1}, false},
		{api.Win{Agg: api.ARank + 1, Span: 1, Rank: 1}, false},
		{api.Win{Agg: math.MaxInt, Span: 1}, false},
		{api.Win{Agg: api.AAvg, Span: 0}, false},
		{api.Win{Agg: api.AAvg, Span: -1}, false},
		{api.Win{Agg: api.AAvg, Span: least}, false},
		{api.Win{Agg: api.AAvg, Span: 604800}, true},
		{api.Win{Agg: api.AAvg, Span: 604801}, false},
		{api.Win{Agg: api.AAvg, Span: most}, false},
		{api.Win{Agg: api.ARank, Span: 1, Rank: 0}, false},
		{api.Win{Agg: api.ARank, Span: 1, Rank: -1}, false},
		{api.Win{Agg: api.ARank, Span: 1, Rank: least}, false},
		{api.Win{Agg: api.ARank, Span: 1, Rank: 100000000}, true},
		{api.Win{Agg: api.ARank, Span: 1, Rank: 100000001}, false},
		{api.Win{Agg: api.ARank, Span: 1, Rank: most}, false},
		{api.Win{Agg: api.ASum, Span: 1, Rank: 1}, false},
		{api.Win{Agg: api.ACount, Span: 1, Rank: -1}, false},
		{api.Win{Agg: api.AHigh, Span: 1, Rank: 50000000}, false},
	} {
		if Right(x.w) != x.want {
			t.Error("Right:", x.w, !x.want)
		}
	}
}

// rightOf answers by the chapter's words whether terms are right.
func rightOf(w api.Win) bool {
	rank := w.Rank == 0
	if w.Agg == 6 {
		rank = 1 <= w.Rank && w.Rank <= 100000000
	}
	return w.Metric >= 0 && slices.Contains([]int{1, 2, 3, 4, 5, 6}, w.Agg) && 1 <= w.Span && w.Span <= 604800 && rank
}

func TestP8_1RightAndNewAgree(t *testing.T) {
	for _, metric := range []int{math.MinInt, -1, 0, 1, 63, 64, math.MaxInt} {
		for agg := -2; agg <= 9; agg++ {
			for _, span := range []int64{least, -604800, -1, 0, 1, 2, 604799, 604800, 604801, 1 << 32, most} {
				for _, rank := range []int64{least, -1, 0, 1, 2, 50000000, 99999999, 100000000, 100000001, 1<<32 + 1, most} {
					w := api.Win{Metric: metric, Agg: agg, Span: span, Rank: rank}
					right := rightOf(w)
					if Right(w) != right {
						t.Fatal("Right:", w, !right)
					}
					n, errno := New(w)
					if right && (n == nil || errno != api.OK) || !right && (n != nil || errno != api.ErrRange) {
						t.Fatal("New:", w, n, errno)
					}
				}
			}
		}
	}
}

// none answers what is told of no samples.
func none(agg int) api.Result {
	if agg == api.ASum || agg == api.ACount {
		return api.Result{}
	}
	return api.Result{Reason: api.NoData}
}

func TestP8_1NewHasTakenNothing(t *testing.T) {
	for _, agg := range aggs() {
		for _, span := range []int64{1, 10, api.MaxSpan} {
			w := made(t, terms(agg, span))
			clock(t, w, 0, false)
			for _, time := range []int64{least, least + 1, -1, 0, 1, most - 1, most, most} {
				reads(t, w, time, none(agg))
				clock(t, w, time, true)
				holds(t, w, time)
			}
			holds(t, made(t, terms(agg, span)), least)
			holds(t, made(t, terms(agg, span)), most)
		}
	}
}

func TestP8_1ClockIsTheGreatestTime(t *testing.T) {
	for _, agg := range aggs() {
		w := made(t, terms(agg, 10))
		clock(t, w, 0, false)
		put(t, w, at(-5, 1)...)
		clock(t, w, -5, true)
		w.Read(-3)
		clock(t, w, -3, true)
		w.Held(0)
		clock(t, w, 0, true)
		put(t, w, at(0, 2)...)
		clock(t, w, 0, true)
		w.Read(0)
		w.Held(0)
		clock(t, w, 0, true)
		refuses(t, w, -1, api.ErrStale)
		clock(t, w, 0, true)
		w.Held(most)
		clock(t, w, most, true)
	}
	for _, first := range []int64{least, -1, 0, 1, most} {
		w := made(t, terms(api.ASum, 10), at(first, 1)...)
		clock(t, w, first, true)
		w = made(t, terms(api.ASum, 10))
		w.Read(first)
		clock(t, w, first, true)
		w = made(t, terms(api.ASum, 10))
		w.Held(first)
		clock(t, w, first, true)
	}
}

// The clock that a refused time leaves as it is, where there is none at hand: the least time.
func TestP8_1ClockAtTheLeastTime(t *testing.T) {
	w := made(t, terms(api.ACount, 1), at(least, 1, 2)...)
	clock(t, w, least, true)
	says(t, w, least, 2000000)
	says(t, w, least+1, 0)
	refuses(t, w, least, api.ErrStale)
	clock(t, w, least+1, true)
}

func TestP8_2Stale(t *testing.T) {
	for _, agg := range aggs() {
		w, twin := made(t, terms(agg, 10), three()...), made(t, terms(agg, 10), three()...)
		for _, time := range []int64{8, 4, 0, -1, least, least + 1} {
			if errno := w.Put(api.Sample{Time: time, Value: 1000}); errno != api.ErrStale {
				t.Fatal(agg, time, errno)
			}
			clock(t, w, 9, true)
		}
		for time := int64(9); time < 22; time++ {
			want, _ := twin.Read(time)
			reads(t, w, time, want)
			held, _ := twin.Held(time)
			holds(t, w, time, held...)
			if errno := w.Put(api.Sample{Time: time - 1, Value: -1000}); errno != api.ErrStale {
				t.Fatal(agg, time, errno)
			}
			reads(t, w, time, want)
			holds(t, w, time, held...)
		}
	}
}

// What is stale is asked against what was asked, not only against what was put.
func TestP8_2StaleBehindARead(t *testing.T) {
	w := made(t, terms(api.ASum, 10), at(3, 1)...)
	says(t, w, 7, 1)
	refuses(t, w, 6, api.ErrStale)
	put(t, w, at(7, 2)...)
	says(t, w, 7, 3)
	holds(t, w, 9, api.Sample{Time: 3, Value: 1}, api.Sample{Time: 7, Value: 2})
	refuses(t, w, 8, api.ErrStale)
	put(t, w, at(9, 4)...)
	says(t, w, 12, 7)
	says(t, w, 13, 6)
}

func TestP8_2SamplesOfOneTime(t *testing.T) {
	for _, x := range []struct {
		agg  int
		want int64
	}{
		{api.ASum, 14}, {api.AAvg, 2}, {api.ALow, 1}, {api.AHigh, 5}, {api.ACount, 5000000}, {api.ARank, 3},
	} {
		w := made(t, terms(x.agg, 5), at(10, 3, 1, 4, 1, 5)...)
		says(t, w, 10, x.want)
		holds(t, w, 10, at(10, 3, 1, 4, 1, 5)...)
		says(t, w, 14, x.want)
		holds(t, w, 14, at(10, 3, 1, 4, 1, 5)...)
		reads(t, w, 15, none(x.agg))
		holds(t, w, 15)
	}
}

// Samples that are handed between two questions, at the time of the first.
func TestP8_2PutAtTheClock(t *testing.T) {
	for _, x := range []struct {
		agg         int
		first, then int64
	}{
		{api.ASum, 5, -4}, {api.AAvg, 5, -2}, {api.ALow, 5, -9}, {api.AHigh, 5, 5}, {api.ACount, 1000000, 2000000}, {api.ARank, 5, -9},
	} {
		w := made(t, terms(x.agg, 3), at(1, 5)...)
		says(t, w, 1, x.first)
		put(t, w, at(1, -9)...)
		says(t, w, 1, x.then)
	}
}

func TestP8_3Examples(t *testing.T) {
	w := made(t, terms(api.ASum, 10), three()...)
	says(t, w, 9, 18)
	says(t, w, 10, 13)
	if errno := w.Put(api.Sample{Time: 9, Value: 1}); errno != api.ErrStale {
		t.Error("Put (9, 1):", errno)
	}
	says(t, w, 14, 7)
	says(t, w, 100, 0)

	w = made(t, terms(api.AAvg, 10), three()...)
	says(t, w, 9, 6)
	says(t, w, 10, 6)
	reads(t, w, 100, api.Result{Reason: api.NoData})

	reads(t, made(t, terms(api.ASum, 10), at(0, most, most)...), 0, api.Result{Reason: api.Taint})
	says(t, made(t, terms(api.AAvg, 10), at(0, most, most)...), 0, most)

	w = made(t, terms(api.ALow, 10))
	for n := range int64(4097) {
		put(t, w, at(0, n+1)...)
	}
	says(t, w, 0, 2)

	w = made(t, terms(api.ACount, 10), api.Sample{Time: least, Value: 1}, api.Sample{Time: most, Value: 2})
	says(t, w, most, 1000000)
	holds(t, w, most, at(most, 2)...)
}

func TestP8_3EachAggregate(t *testing.T) {
	for _, x := range []struct {
		agg  int
		want [4]api.Result // at 9, 10, 14, 100
	}{
		{api.ASum, [4]api.Result{{N: 18}, {N: 13}, {N: 7}, {}}},
		{api.AAvg, [4]api.Result{{N: 6}, {N: 6}, {N: 7}, {Reason: api.NoData}}},
		{api.ALow, [4]api.Result{{N: 5}, {N: 6}, {N: 7}, {Reason: api.NoData}}},
		{api.AHigh, [4]api.Result{{N: 7}, {N: 7}, {N: 7}, {Reason: api.NoData}}},
		{api.ACount, [4]api.Result{{N: 3000000}, {N: 2000000}, {N: 1000000}, {}}},
		{api.ARank, [4]api.Result{{N: 6}, {N: 6}, {N: 7}, {Reason: api.NoData}}},
	} {
		w := made(t, terms(x.agg, 10), three()...)
		for i, time := range []int64{9, 10, 14, 100} {
			reads(t, w, time, x.want[i])
			reads(t, w, time, x.want[i]) // asking takes nothing away
		}
		put(t, w, at(100, -8)...)
		want := map[int]int64{api.ASum: -8, api.AAvg: -8, api.ALow: -8, api.AHigh: -8, api.ACount: 1000000, api.ARank: -8}
		says(t, w, 100, want[x.agg])
	}
}

// A metric's place is nothing to what is told.
func TestP8_3AnyMetric(t *testing.T) {
	for _, metric := range []int{0, 1, 63, math.MaxInt} {
		w := made(t, api.Win{Metric: metric, Agg: api.ASum, Span: 10}, three()...)
		says(t, w, 9, 18)
	}
}

func TestP8_3JustTheSpan(t *testing.T) {
	for _, span := range []int64{1, 2, 10, api.MaxSpan - 1, api.MaxSpan} {
		for _, time := range []int64{least, -span, -1, 0, 1, 1 << 40, most - span - 1} {
			for _, agg := range aggs() {
				w := made(t, terms(agg, span), at(time, 4)...)
				want := int64(4)
				if agg == api.ACount {
					want = 1000000
				}
				says(t, w, time, want)
				says(t, w, time+span-1, want)
				holds(t, w, time+span-1, at(time, 4)...)
				reads(t, w, time+span, none(agg))
				holds(t, w, time+span)
				reads(t, w, time+span+1, none(agg))
				holds(t, w, time+span+1)
			}
		}
	}
}

// Of several samples just those leave that are too old; and a Put lets them leave as well as a
// question does.
func TestP8_3TheOldLeave(t *testing.T) {
	samples := []api.Sample{{Time: 0, Value: 1}, {Time: 0, Value: 2}, {Time: 1, Value: 4}, {Time: 3, Value: 8}, {Time: 4, Value: 16}}
	w := made(t, terms(api.ASum, 3), samples...)
	says(t, w, 4, 24)
	holds(t, w, 4, samples[3:]...)
	says(t, w, 5, 24)
	says(t, w, 6, 16)
	says(t, w, 7, 0)
	w = made(t, terms(api.ASum, 3), samples[:3]...)
	says(t, w, 2, 7)
	says(t, w, 3, 4)
	put(t, w, samples[3:]...)
	says(t, w, 4, 24)
}

func TestP8_3TimesAtTheEnds(t *testing.T) {
	for _, span := range []int64{1, 2, api.MaxSpan} {
		for _, agg := range aggs() {
			w := made(t, terms(agg, span), api.Sample{Time: least, Value: 3}, api.Sample{Time: most, Value: 5})
			holds(t, w, most, at(most, 5)...)
			want := int64(5)
			if agg == api.ACount {
				want = 1000000
			}
			says(t, w, most, want)
		}
		// The differences: 2^64 - 1, 2^63 + 1, 2^63, 2^63 - 1, and what a wrapped one would be small of.
		for _, x := range [][2]int64{{least, most}, {least, most - span}, {-2, most}, {-1, most}, {0, most}, {least, 1}, {least, 0}, {least, -1},
			{least + 5, most}, {least, most - 5}} {
			w := made(t, terms(api.AAvg, span), at(x[0], 7)...)
			reads(t, w, x[1], api.Result{Reason: api.NoData})
			w = made(t, terms(api.AAvg, span), at(x[0], 7)...)
			holds(t, w, x[1])
		}
		w := made(t, terms(api.ASum, span), at(most-span+1, 7)...)
		says(t, w, most, 7)
		w = made(t, terms(api.ASum, span), at(most-span, 7)...)
		says(t, w, most, 0)
	}
}

func TestP8_3SumAtTheEnds(t *testing.T) {
	taint := api.Result{Reason: api.Taint}
	for _, x := range []struct {
		values []int64
		want   api.Result
	}{
		{[]int64{most}, api.Result{N: most}},
		{[]int64{most, 0}, api.Result{N: most}},
		{[]int64{most - 1, 1}, api.Result{N: most}},
		{[]int64{most, 1}, taint},
		{[]int64{1, most}, taint},
		{[]int64{most, most}, taint},
		{[]int64{most, 1, -1}, api.Result{N: most}},
		{[]int64{most, most, least, least}, api.Result{N: -2}},
		{[]int64{least}, api.Result{N: least}},
		{[]int64{least + 1, -1}, api.Result{N: least}},
		{[]int64{least, -1}, taint},
		{[]int64{least, least}, taint},
		{[]int64{least, least, most, most, 2}, api.Result{}},
		{[]int64{least, most}, api.Result{N: -1}},
		{[]int64{1 << 62, 1 << 62}, taint},
		{[]int64{1 << 62, 1 << 62, 1 << 62, 1 << 62}, taint}, // 2^64: 0, if it were wrapped
		{[]int64{least, least, 0}, taint},                    // -2^64: likewise
	} {
		reads(t, made(t, terms(api.ASum, 1), at(0, x.values...)...), 0, x.want)
	}
}

// A sum that is no int64 is one again when samples have left.
func TestP8_3SumComesBack(t *testing.T) {
	taint := api.Result{Reason: api.Taint}
	w := made(t, terms(api.ASum, 10), append(at(0, 1), at(5, most)...)...)
	reads(t, w, 9, taint)
	says(t, w, 10, most)
	put(t, w, at(10, most)...)
	reads(t, w, 14, taint)
	says(t, w, 15, most)
	says(t, w, 20, 0)
	put(t, w, at(20, least, -1)...)
	reads(t, w, 20, taint)
	put(t, w, at(20, 1)...)
	says(t, w, 20, least)
	says(t, w, 30, 0)

	w = made(t, terms(api.ASum, api.MaxSpan))
	for range api.MaxSamples {
		put(t, w, at(0, most)...)
	}
	for range api.MaxSamples - 1 { // one by one they leave, till there is one
		reads(t, w, 0, taint)
		put(t, w, at(0, 0)...)
	}
	says(t, w, 0, most)
	put(t, w, at(0, 0)...)
	says(t, w, 0, 0)
}

func TestP8_3MeanIsRoundedDown(t *testing.T) {
	for _, x := range []struct {
		values []int64
		want   int64
	}{
		{[]int64{7}, 7}, {[]int64{1, 2}, 1}, {[]int64{0, 1}, 0}, {[]int64{-1, 0}, -1}, {[]int64{-1, -2}, -2},
		{[]int64{-3, 0}, -2}, {[]int64{-1, 0, 0}, -1}, {[]int64{-2, 0, 0}, -1}, {[]int64{-3, 0, 0}, -1}, {[]int64{-4, 0, 0}, -2},
		{[]int64{1, 0, 0}, 0}, {[]int64{2, 0, 0}, 0}, {[]int64{3, 0, 0}, 1}, {[]int64{-1, 1}, 0},
		{[]int64{most, most}, most}, {[]int64{most, most - 1}, most - 1}, {[]int64{least, least}, least}, {[]int64{least, least + 1}, least},
		{[]int64{least, most}, -1}, {[]int64{most, most, most}, most}, {[]int64{least, least, least + 2}, least}, {[]int64{least, least, least + 3}, least + 1},
	} {
		says(t, made(t, terms(api.AAvg, 1), at(0, x.values...)...), 0, x.want)
	}
}

func TestP8_3LowAndHigh(t *testing.T) {
	samples := []api.Sample{{Time: 0, Value: least}, {Time: 1, Value: most}, {Time: 2, Value: 3}, {Time: 3, Value: -3}, {Time: 4, Value: 3}, {Time: 4, Value: 0}}
	low, high := made(t, terms(api.ALow, 5), samples...), made(t, terms(api.AHigh, 5), samples...)
	for _, x := range []struct{ time, low, high int64 }{
		{4, least, most}, {5, -3, most}, {6, -3, 3}, {7, -3, 3}, {8, 0, 3},
	} {
		says(t, low, x.time, x.low)
		says(t, high, x.time, x.high)
	}
	reads(t, low, 9, none(api.ALow))
	reads(t, high, 9, none(api.AHigh))
}

func TestP8_3RankAtTheEdges(t *testing.T) {
	for _, x := range []struct{ rank, want int64 }{
		{1, 1}, {33333333, 1}, {33333334, 3}, {50000000, 3}, {66666666, 3}, {66666667, 5}, {99999999, 5}, {100000000, 5},
	} {
		says(t, made(t, api.Win{Agg: api.ARank, Span: 1, Rank: x.rank}, at(0, 5, 1, 3)...), 0, x.want)
	}
	for _, rank := range []int64{1, 50000000, 100000000} {
		w := api.Win{Agg: api.ARank, Span: 2, Rank: rank}
		reads(t, made(t, w), 0, api.Result{Reason: api.NoData})
		says(t, made(t, w, at(0, -9)...), 0, -9)
		says(t, made(t, w, at(0, 4, 4, 4)...), 0, 4)
		old := made(t, w, append(at(0, least, most), at(1, 6)...)...)
		says(t, old, 2, 6)
		reads(t, old, 3, api.Result{Reason: api.NoData})
	}
	for _, x := range []struct{ rank, want int64 }{
		{1, 2}, {24414, 2}, {24415, 3}, {50000000, 2049}, {50000001, 2050}, {99975585, 4096}, {99975586, 4097}, {100000000, 4097},
	} {
		w := made(t, api.Win{Agg: api.ARank, Span: 1, Rank: x.rank})
		for n := range int64(4097) { // 1 leaves: 2 to 4097 are held
			put(t, w, at(0, n+1)...)
		}
		says(t, w, 0, x.want)
	}
}

// manyOf answers what is told of the values from first to last, each once.
func manyOf(agg int, first, last int64) int64 {
	count := last - first + 1
	return map[int]int64{
		api.ASum: (first + last) * count / 2, api.AAvg: (first + last) >> 1, api.ALow: first, api.AHigh: last,
		api.ACount: count * 1000000, api.ARank: first + (count+1)/2 - 1,
	}[agg]
}

func TestP8_3MaxSamplesOfOneTime(t *testing.T) {
	for _, agg := range aggs() {
		w := made(t, terms(agg, 1))
		for n := int64(1); n <= 3*api.MaxSamples+7; n++ {
			put(t, w, at(5, n)...)
			if n%1000 == 0 || n%api.MaxSamples < 3 || n%api.MaxSamples > api.MaxSamples-3 {
				says(t, w, 5, manyOf(agg, max(1, n-api.MaxSamples+1), n))
			}
		}
		list, errno := w.Held(5)
		if len(list) != api.MaxSamples || errno != api.OK {
			t.Fatal(len(list), errno)
		}
		for i, s := range list {
			if want := (api.Sample{Time: 5, Value: 2*api.MaxSamples + 8 + int64(i)}); s != want {
				t.Fatal(i, s, want)
			}
		}
		reads(t, w, 6, none(agg))
		holds(t, w, 6)
	}
}

// Falling values: then the greatest leaves first.
func TestP8_3MaxSamplesFalling(t *testing.T) {
	low, high, order := made(t, terms(api.ALow, 1)), made(t, terms(api.AHigh, 1)), made(t, terms(api.ARank, 1))
	for n := int64(1); n <= 2*api.MaxSamples; n++ {
		for _, w := range []*Window{low, high, order} {
			put(t, w, at(0, -n)...)
		}
		first := -max(1, n-api.MaxSamples+1)
		says(t, low, 0, -n)
		says(t, high, 0, first)
		says(t, order, 0, manyOf(api.ARank, -n, first))
	}
}

// Where the span lets in more than MaxSamples, the newest of them are held; the others don't come
// back when the newest have become old.
func TestP8_3MaxSamplesOfManyTimes(t *testing.T) {
	for _, agg := range aggs() {
		w := made(t, terms(agg, api.MaxSpan))
		last := int64(api.MaxSamples + 100)
		for n := range last + 1 {
			put(t, w, at(n, n)...)
		}
		says(t, w, last, manyOf(agg, 101, last))
		list, _ := w.Held(last)
		if len(list) != api.MaxSamples || list[0] != (api.Sample{Time: 101, Value: 101}) {
			t.Fatal(len(list), list[0])
		}
		says(t, w, api.MaxSpan+100, manyOf(agg, 101, last))
		says(t, w, api.MaxSpan+101, manyOf(agg, 102, last))
		says(t, w, api.MaxSpan+last-1, manyOf(agg, last, last))
		reads(t, w, api.MaxSpan+last, none(agg))
	}
}

func TestP8_3ExactlyMaxSamples(t *testing.T) {
	w := made(t, terms(api.ACount, 1))
	for n := range int64(api.MaxSamples - 1) {
		put(t, w, at(0, n)...)
	}
	says(t, w, 0, (api.MaxSamples-1)*1000000)
	put(t, w, at(0, 1)...)
	says(t, w, 0, api.MaxSamples*1000000)
	put(t, w, at(0, 1)...)
	says(t, w, 0, api.MaxSamples*1000000)
}

func TestP8_3Stale(t *testing.T) {
	for _, agg := range aggs() {
		w := made(t, terms(agg, 10), three()...)
		want, _ := w.Read(12)
		for _, time := range []int64{11, 9, 0, -1, least} {
			refuses(t, w, time, api.ErrStale)
			clock(t, w, 12, true)
			reads(t, w, 12, want)
			holds(t, w, 12, three()[1:]...)
		}
		reads(t, w, 1000, none(agg))
		refuses(t, w, 999, api.ErrStale)
		clock(t, w, 1000, true)
	}
}

func TestP8_4OldestFirst(t *testing.T) {
	w := made(t, terms(api.AHigh, 10), three()...)
	holds(t, w, 9, three()...)
	holds(t, w, 9, three()...)
	holds(t, w, 10, three()[1:]...)
	holds(t, w, 13, three()[1:]...)
	holds(t, w, 14, three()[2:]...)
	clock(t, w, 14, true)
	put(t, w, at(14, 9, 2, 9)...)
	holds(t, w, 14, append(three()[2:], at(14, 9, 2, 9)...)...)
	holds(t, w, 19, at(14, 9, 2, 9)...)
	holds(t, w, 24)
	for _, time := range []int64{23, 0, least} {
		if list, errno := w.Held(time); len(list) != 0 || errno != api.ErrStale {
			t.Fatal(time, list, errno)
		}
	}
	clock(t, w, 24, true)
}

// A list that was answered is the asker's: what is written to it, and to its spare room, is nothing
// to the window, nor is what becomes of the window anything to the list.
func TestP8_4HeldIsNewMemory(t *testing.T) {
	for _, agg := range aggs() {
		w := made(t, terms(agg, 10), three()...)
		want, _ := w.Read(9)
		list, _ := w.Held(9)
		other, _ := w.Held(9)
		spare := list[:cap(list)]
		for i := range spare {
			spare[i] = api.Sample{Time: 77, Value: 77}
		}
		_ = append(list, api.Sample{Time: 78, Value: 78})
		if !slices.Equal(other, three()) {
			t.Fatal(other)
		}
		reads(t, w, 9, want)
		holds(t, w, 9, three()...)

		put(t, w, at(12, 1, 2, 3)...)
		w.Read(500)
		for n := range int64(2 * api.MaxSamples) {
			put(t, w, at(500, n)...)
		}
		if !slices.Equal(other, three()) || list[0].Time != 77 {
			t.Fatal(other, list)
		}
	}
}

func TestP8_5NilAndZero(t *testing.T) {
	for _, w := range []*Window{nil, {}, new(Window)} {
		for range 2 {
			for _, time := range []int64{least, -1, 0, 1, most, -1, least} {
				clock(t, w, 0, false)
				refuses(t, w, time, api.ErrNone)
			}
			clock(t, w, 0, false)
		}
	}
	var w Window
	refuses(t, &w, 3, api.ErrNone)
	refuses(t, &w, 2, api.ErrNone) // not stale: a zero window has no clock
	clock(t, &w, 0, false)
}

// The ring's methods are the window's: they tell of what is held at the clock.
func TestWaysPromoted(t *testing.T) {
	w := made(t, terms(api.ASum, 10), three()...)
	if w.Room() != api.MaxSamples || w.Len() != 3 || !slices.Equal(w.List(), three()) {
		t.Error(w.Room(), w.Len(), w.List())
	}
	w.Read(10)
	if first, there := w.At(0); w.Len() != 2 || first != three()[1] || !there {
		t.Error(w.Len(), first, there)
	}
	put(t, w, at(20, 1)...)
	if w.Len() != 1 {
		t.Error(w.Len())
	}
	for i, s := range w.Each() {
		if i != 0 || s != (api.Sample{Time: 20, Value: 1}) {
			t.Error(i, s)
		}
	}
	var zero Window
	if zero.Room() != 0 || zero.Len() != 0 || len(zero.List()) != 0 {
		t.Error(zero.Room(), zero.Len())
	}
}

// R7: windows don't hang on one another.
func TestP8TwoWindows(t *testing.T) {
	for _, agg := range aggs() {
		a, b := made(t, terms(agg, 10), three()...), made(t, terms(agg, 10), three()...)
		want, _ := b.Read(9)
		put(t, a, at(30, 1, 2)...)
		clock(t, b, 9, true)
		reads(t, b, 9, want)
		holds(t, b, 9, three()...)
		put(t, b, at(9, 3)...)
		holds(t, a, 30, at(30, 1, 2)...)
		holds(t, b, 9, append(three(), at(9, 3)...)...)
	}
}

func TestCallsOnlyTheLayersBelow(t *testing.T) {
	below := []string{"capstan/api", "capstan/fix", "capstan/dim", "capstan/civil", "capstan/cron", "capstan/ring", "capstan/mono", "capstan/rank"}
	files, err := filepath.Glob("*.go")
	if err != nil || len(files) == 0 {
		t.Fatal(files, err)
	}
	for _, name := range files {
		if strings.HasSuffix(name, "_test.go") {
			continue
		}
		file, err := parser.ParseFile(token.NewFileSet(), name, nil, parser.ImportsOnly)
		if err != nil {
			t.Fatal(err)
		}
		for _, spec := range file.Imports {
			path, _ := strconv.Unquote(spec.Path.Value)
			if strings.HasPrefix(path, "capstan/") && !slices.Contains(below, path) {
				t.Errorf("%s imports %s", name, path)
			}
		}
	}
}
