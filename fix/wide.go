package fix

// Wide is an exact sum of int64 numbers. The zero Wide is 0, and a copy of one goes its own way.
type Wide struct {
	sum words
}

// Add puts v to the sum.
func (w *Wide) Add(v int64) {
	if w != nil {
		w.sum = plus(w.sum, widen(v))
	}
}

// Take takes v off the sum.
func (w *Wide) Take(v int64) {
	if w != nil {
		w.sum = minus(w.sum, widen(v))
	}
}

// Fit answers the sum, if it is an int64.
func (w *Wide) Fit() (int64, bool) {
	return fit(w.total())
}

// Mean answers the sum divided by n, rounded down, if n is at least 1 and the quotient an int64.
func (w *Wide) Mean(n int64) (int64, bool) {
	if n < 1 {
		return 0, false
	}
	return fit(over(w.total(), n))
}

func (w *Wide) total() words {
	if w == nil {
		return words{}
	}
	return w.sum
}
