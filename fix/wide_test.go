package fix

import (
	"math/big"
	"testing"
)

func wantFit(t *testing.T, w *Wide, want int64, wantOk bool) {
	t.Helper()
	if v, ok := w.Fit(); v != want || ok != wantOk {
		t.Errorf("Fit() = %d, %t, want %d, %t", v, ok, want, wantOk)
	}
}

func wantMean(t *testing.T, w *Wide, n, want int64, wantOk bool) {
	t.Helper()
	if v, ok := w.Mean(n); v != want || ok != wantOk {
		t.Errorf("Mean(%d) = %d, %t, want %d, %t", n, v, ok, want, wantOk)
	}
}

// wantBig holds a Wide against the number that its sum should be.
func wantBig(t *testing.T, w *Wide, sum *big.Int) {
	t.Helper()
	if sum.IsInt64() {
		wantFit(t, w, sum.Int64(), true)
	} else {
		wantFit(t, w, 0, false)
	}
	for _, n := range []int64{least, -1, 0, 1, 2, 3, 7, 1000000, 1 << 32, most} {
		if n < 1 {
			wantMean(t, w, n, 0, false)
			continue
		}
		mean := bigDown(sum, bigOf(n))
		if mean.IsInt64() {
			wantMean(t, w, n, mean.Int64(), true)
		} else {
			wantMean(t, w, n, 0, false)
		}
	}
}

func TestP1_7Examples(t *testing.T) {
	var w Wide
	w.Add(most)
	w.Add(most)
	wantFit(t, &w, 0, false)
	wantMean(t, &w, 1, 0, false)
	wantMean(t, &w, 2, most, true)
	w.Take(most)
	wantFit(t, &w, most, true)
	var u Wide
	u.Add(-3)
	wantFit(t, &u, -3, true)
	wantMean(t, &u, 2, -2, true)
}

func TestP1_7ZeroWide(t *testing.T) {
	var w Wide
	wantFit(t, &w, 0, true)
	wantMean(t, &w, 1, 0, true)
	wantMean(t, &w, most, 0, true)
	wantMean(t, &w, 0, 0, false)
	wantMean(t, &w, -1, 0, false)
	wantMean(t, &w, least, 0, false)
}

func TestP1_7NilWide(t *testing.T) {
	var w *Wide
	w.Add(5)
	w.Take(7)
	wantFit(t, w, 0, true)
	wantMean(t, w, 1, 0, true)
	wantMean(t, w, most, 0, true)
	wantMean(t, w, 0, 0, false)
	wantMean(t, w, least, 0, false)
}

func TestP1_7MeanOfNoCount(t *testing.T) {
	var w Wide
	w.Add(12)
	wantMean(t, &w, 0, 0, false)
	wantMean(t, &w, -3, 0, false)
	wantMean(t, &w, least, 0, false)
	wantMean(t, &w, 5, 2, true)
}

func TestP1_7Ends(t *testing.T) {
	var w Wide
	w.Add(least)
	wantFit(t, &w, least, true)
	w.Add(-1)
	wantFit(t, &w, 0, false)
	wantMean(t, &w, 1, 0, false)
	wantMean(t, &w, 2, least/2-1, true)
	w.Take(-1)
	wantFit(t, &w, least, true)
	w.Take(least)
	wantFit(t, &w, 0, true)
	w.Take(least)
	wantFit(t, &w, 0, false)
	w.Take(1)
	wantFit(t, &w, most, true)
}

func TestP1_7CopyGoesItsOwnWay(t *testing.T) {
	var w Wide
	w.Add(most)
	w.Add(most)
	c := w
	c.Take(most)
	w.Add(2)
	wantFit(t, &c, most, true)
	wantFit(t, &w, 0, false)
	w.Take(most)
	w.Take(most)
	wantFit(t, &w, 2, true)
	wantFit(t, &c, most, true)
}

func TestP1_7AskingChangesNothing(t *testing.T) {
	var w Wide
	w.Add(-7)
	for range 3 {
		wantMean(t, &w, 2, -4, true)
		wantFit(t, &w, -7, true)
	}
}

func TestP1_7AgainstBig(t *testing.T) {
	var w Wide
	sum := new(big.Int)
	for i, v := range edges() {
		for range 3 {
			if i%3 == 1 {
				w.Take(v)
				sum.Sub(sum, bigOf(v))
			} else {
				w.Add(v)
				sum.Add(sum, bigOf(v))
			}
			wantBig(t, &w, sum)
		}
	}
}

func TestP1_7ManyNumbers(t *testing.T) {
	const many = 1 << 20
	for _, v := range []int64{most, least} {
		var w Wide
		for range many {
			w.Add(v)
		}
		wantBig(t, &w, bigTimes(v, many))
		wantMean(t, &w, many, v, true)
		wantMean(t, &w, many-1, 0, false)
		for range many - 1 {
			w.Take(v)
		}
		wantFit(t, &w, v, true)
	}
}
