package dim

import (
	"strconv"

	"capstan/api"
)

// maxDigits is how many digits a NUMBER may have.
const maxDigits = 3

// names are the units' names and what they mean, in lowest terms.
var names = [...]struct {
	name string
	unit api.Unit
}{
	{"one", api.Unit{Num: 1, Den: 1}},
	{"pct", api.Unit{Num: 1, Den: 100}},
	{"s", api.Unit{Num: 1, Den: 1, Dim: api.Dim{1, 0, 0, 0, 0}}},
	{"ms", api.Unit{Num: 1, Den: 1000, Dim: api.Dim{1, 0, 0, 0, 0}}},
	{"min", api.Unit{Num: 60, Den: 1, Dim: api.Dim{1, 0, 0, 0, 0}}},
	{"h", api.Unit{Num: 3600, Den: 1, Dim: api.Dim{1, 0, 0, 0, 0}}},
	{"d", api.Unit{Num: 86400, Den: 1, Dim: api.Dim{1, 0, 0, 0, 0}}},
	{"req", api.Unit{Num: 1, Den: 1, Dim: api.Dim{0, 1, 0, 0, 0}}},
	{"kreq", api.Unit{Num: 1000, Den: 1, Dim: api.Dim{0, 1, 0, 0, 0}}},
	{"B", api.Unit{Num: 1, Den: 1, Dim: api.Dim{0, 0, 1, 0, 0}}},
	{"kB", api.Unit{Num: 1000, Den: 1, Dim: api.Dim{0, 0, 1, 0, 0}}},
	{"MB", api.Unit{Num: 1000000, Den: 1, Dim: api.Dim{0, 0, 1, 0, 0}}},
	{"KiB", api.Unit{Num: 1 << 10, Den: 1, Dim: api.Dim{0, 0, 1, 0, 0}}},
	{"MiB", api.Unit{Num: 1 << 20, Den: 1, Dim: api.Dim{0, 0, 1, 0, 0}}},
	{"GiB", api.Unit{Num: 1 << 30, Den: 1, Dim: api.Dim{0, 0, 1, 0, 0}}},
	{"rep", api.Unit{Num: 1, Den: 1, Dim: api.Dim{0, 0, 0, 1, 0}}},
	{"core", api.Unit{Num: 1, Den: 1, Dim: api.Dim{0, 0, 0, 0, 1}}},
	{"mcore", api.Unit{Num: 1, Den: 1000, Dim: api.Dim{0, 0, 0, 0, 1}}},
}

// factor is a unit, and how many times it is meant.
type factor struct {
	unit  api.Unit
	count int
}

// Read answers the unit that text means; or the byte of what is wrong in it, and why.
func Read(text string) (api.Unit, int, api.Errno) {
	if len(text) > api.MaxText {
		return api.Unit{}, 0, api.ErrLong
	}
	whole := api.Unit{Num: 1, Den: 1}
	at, under := 0, false
	for {
		f, next, ok := readFactor(text, at)
		if !ok {
			return api.Unit{}, next, api.ErrUnit
		}
		if under {
			f.unit = inverse(f.unit)
		}
		if whole, ok = times(whole, f); !ok {
			return api.Unit{}, at, api.ErrBig
		}
		if next == len(text) {
			return whole, 0, api.OK
		}
		if text[next] != '*' && text[next] != '/' {
			return api.Unit{}, next, api.ErrUnit
		}
		at, under = next+1, text[next] == '/'
	}
}

// readFactor answers the factor that begins at the byte at, and the byte behind it; or
// the byte of what is wrong, and false.
func readFactor(text string, at int) (factor, int, bool) {
	end := run(text, at, isLetter)
	unit, ok := find(text[at:end])
	if !ok {
		return factor{}, at, false
	}
	if end == len(text) || text[end] != '^' {
		return factor{unit: unit, count: 1}, end, true
	}
	at = end + 1
	end = run(text, at, isDigit)
	count, ok := number(text[at:end])
	if !ok {
		return factor{}, at, false
	}
	return factor{unit: unit, count: count}, end, true
}

// run answers the byte behind the longest run of such bytes that begins at the byte at.
func run(text string, at int, such func(b byte) bool) int {
	for at < len(text) && such(text[at]) {
		at++
	}
	return at
}

func isLetter(b byte) bool {
	return 'a' <= b && b <= 'z' || 'A' <= b && b <= 'Z'
}

func isDigit(b byte) bool {
	return '0' <= b && b <= '9'
}

func find(name string) (api.Unit, bool) {
	for _, row := range names {
		if row.name == name {
			return row.unit, true
		}
	}
	return api.Unit{}, false
}

// number answers what a run of digits counts; or false, if it is no NUMBER.
func number(digits string) (int, bool) {
	if digits == "" || len(digits) > maxDigits || digits[0] == '0' {
		return 0, false
	}
	n, err := strconv.Atoi(digits)
	return n, err == nil
}

// inverse answers one divided by u, which is one of names: its exponents are small.
func inverse(u api.Unit) api.Unit {
	dim, _ := Div(api.Dim{}, u.Dim)
	return api.Unit{Num: u.Den, Den: u.Num, Dim: dim}
}

// times answers whole times f, one name behind the other; or false, if it is beyond the
// limits behind one of these, even if a later one would bring it back.
func times(whole api.Unit, f factor) (api.Unit, bool) {
	for range f.count {
		next, ok := product(whole, f.unit)
		if !ok {
			return api.Unit{}, false
		}
		whole = next
	}
	return whole, true
}

// product answers a times b, both in lowest terms, in lowest terms; or false, if it is
// beyond the limits. What can be is cut ahead of the multiplications, so that only what
// is too big in lowest terms is refused, and none wraps.
func product(a, b api.Unit) (api.Unit, bool) {
	dim, ok := Mul(a.Dim, b.Dim)
	if !ok {
		return api.Unit{}, false
	}
	first, second := common(a.Num, b.Den), common(b.Num, a.Den)
	num, ok := bounded(a.Num/first, b.Num/second)
	if !ok {
		return api.Unit{}, false
	}
	den, ok := bounded(a.Den/second, b.Den/first)
	if !ok {
		return api.Unit{}, false
	}
	return api.Unit{Num: num, Den: den, Dim: dim}, true
}

// bounded answers a times b, both above 0; or false, if that is above MaxFactor.
func bounded(a, b int64) (int64, bool) {
	if a > api.MaxFactor/b {
		return 0, false
	}
	return a * b, true
}

// common answers the greatest common divisor of a and b, both above 0.
func common(a, b int64) int64 {
	for b != 0 {
		a, b = b, a%b
	}
	return a
}
