package fix

import (
	"math"
	"math/bits"
)

// words is a number of 128 bits in two's complement, the low word first.
// Its room is never used up: a product of two int64 is at most 2^126 in size, and a
// sum of as many int64 as the document allows for, which is below 2^31, at most 2^94.
type words [2]uint64

func widen(v int64) words {
	return words{uint64(v), uint64(v >> 63)}
}

func (w words) below0() bool {
	return int64(w[1]) < 0
}

func plus(a, b words) words {
	low, carry := bits.Add64(a[0], b[0], 0)
	high, _ := bits.Add64(a[1], b[1], carry)
	return words{low, high}
}

func minus(a, b words) words {
	low, borrow := bits.Sub64(a[0], b[0], 0)
	high, _ := bits.Sub64(a[1], b[1], borrow)
	return words{low, high}
}

func times(a, b int64) words {
	high, low := bits.Mul64(uint64(a), uint64(b))
	// As a word a number below 0 is 2^64 too great: that much too great is the high word.
	if a < 0 {
		high -= uint64(b)
	}
	if b < 0 {
		high -= uint64(a)
	}
	return words{low, high}
}

// size answers how far w is from 0, and whether it lies below 0.
func size(w words) (words, bool) {
	if w.below0() {
		return minus(words{}, w), true
	}
	return w, false
}

// over answers w divided by d, which is not 0, rounded down.
func over(w words, d int64) words {
	top, topBelow := size(w)
	bottom, bottomBelow := size(widen(d))
	high, rest := bits.Div64(0, top[1], bottom[0])
	low, rest := bits.Div64(rest, top[0], bottom[0])
	quotient := words{low, high}
	if topBelow == bottomBelow {
		return quotient
	}
	if rest != 0 { // below 0, down is away from 0
		quotient = plus(quotient, words{1, 0})
	}
	return minus(words{}, quotient)
}

// fit answers w, if it is an int64.
func fit(w words) (int64, bool) {
	v := int64(w[0])
	if widen(v) != w {
		return 0, false
	}
	return v, true
}

// hold answers w, or the end of int64 beyond which it lies.
func hold(w words) int64 {
	v, ok := fit(w)
	switch {
	case ok:
		return v
	case w.below0():
		return math.MinInt64
	default:
		return math.MaxInt64
	}
}
