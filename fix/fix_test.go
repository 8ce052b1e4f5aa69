package fix

import (
	"go/parser"
	"go/token"
	"math"
	"math/big"
	"path/filepath"
	"strings"
	"testing"

	"capstan/api"
)

const (
	most  = math.MaxInt64
	least = math.MinInt64
)

// edges are the numbers at which signs, words, whole ones and the ends of int64 change.
func edges() []int64 {
	list := []int64{least, most}
	for _, mid := range []int64{
		0, api.One, -api.One, api.One / 2, 3 * api.One / 2, -3 * api.One / 2,
		1 << 31, -(1 << 31), 1 << 32, -(1 << 32), 3037000500, -3037000500,
		most / api.One, least / api.One, most / api.One * api.One, least / api.One * api.One,
		1 << 62, -(1 << 62), most - api.One, least + api.One, 1234567890123456789, -1234567890123456789,
	} {
		list = append(list, mid-1, mid, mid+1)
	}
	return append(list, least+1, most-1, 7, -7)
}

func bigOf(v int64) *big.Int {
	return big.NewInt(v)
}

// bigDown divides and rounds down, where big.Int's own Div rounds by the divisor's sign.
func bigDown(a, b *big.Int) *big.Int {
	quotient, rest := new(big.Int).QuoRem(a, b, new(big.Int))
	if rest.Sign() != 0 && rest.Sign() != b.Sign() {
		quotient.Sub(quotient, bigOf(1))
	}
	return quotient
}

func bigUp(a, b *big.Int) *big.Int {
	down := bigDown(new(big.Int).Neg(a), b)
	return down.Neg(down)
}

func bigTimes(a, b int64) *big.Int {
	return new(big.Int).Mul(bigOf(a), bigOf(b))
}

func bigHeld(v *big.Int) int64 {
	switch {
	case v.Cmp(bigOf(most)) > 0:
		return most
	case v.Cmp(bigOf(least)) < 0:
		return least
	}
	return v.Int64()
}

type row struct {
	call      string
	got, want int64
}

func compare(t *testing.T, rows []row) {
	t.Helper()
	for _, r := range rows {
		if r.got != r.want {
			t.Errorf("%s = %d, want %d", r.call, r.got, r.want)
		}
	}
}

func TestP1_1Examples(t *testing.T) {
	compare(t, []row{
		{"Add(2, 3)", Add(2, 3), 5},
		{"Add(-2, 3)", Add(-2, 3), 1},
		{"Add(most, 1)", Add(most, 1), most},
		{"Add(most, most)", Add(most, most), most},
		{"Add(least, -1)", Add(least, -1), least},
		{"Add(least, least)", Add(least, least), least},
		{"Add(least, most)", Add(least, most), -1},
		{"Sub(2, 3)", Sub(2, 3), -1},
		{"Sub(0, least)", Sub(0, least), most},
		{"Sub(-1, least)", Sub(-1, least), most},
		{"Sub(most, -1)", Sub(most, -1), most},
		{"Sub(least, 1)", Sub(least, 1), least},
		{"Sub(least, least)", Sub(least, least), 0},
		{"Sub(most, least)", Sub(most, least), most},
		{"Sub(least, most)", Sub(least, most), least},
		{"Neg(0)", Neg(0), 0},
		{"Neg(5)", Neg(5), -5},
		{"Neg(most)", Neg(most), least + 1},
		{"Neg(least)", Neg(least), most},
		{"Abs(0)", Abs(0), 0},
		{"Abs(5)", Abs(5), 5},
		{"Abs(-5)", Abs(-5), 5},
		{"Abs(most)", Abs(most), most},
		{"Abs(least + 1)", Abs(least + 1), most},
		{"Abs(least)", Abs(least), most},
	})
}

func TestP1_1AgainstBig(t *testing.T) {
	for _, a := range edges() {
		if got, want := Neg(a), bigHeld(new(big.Int).Neg(bigOf(a))); got != want {
			t.Errorf("Neg(%d) = %d, want %d", a, got, want)
		}
		if got, want := Abs(a), bigHeld(new(big.Int).Abs(bigOf(a))); got != want {
			t.Errorf("Abs(%d) = %d, want %d", a, got, want)
		}
		for _, b := range edges() {
			if got, want := Add(a, b), bigHeld(new(big.Int).Add(bigOf(a), bigOf(b))); got != want {
				t.Errorf("Add(%d, %d) = %d, want %d", a, b, got, want)
			}
			if got, want := Sub(a, b), bigHeld(new(big.Int).Sub(bigOf(a), bigOf(b))); got != want {
				t.Errorf("Sub(%d, %d) = %d, want %d", a, b, got, want)
			}
		}
	}
}

func TestP1_2Examples(t *testing.T) {
	compare(t, []row{
		{"Mul(2000000, 3000000)", Mul(2000000, 3000000), 6000000},
		{"Mul(1500000, -1)", Mul(1500000, -1), -2},
		{"Mul(-1, 1500000)", Mul(-1, 1500000), -2},
		{"Mul(-1, -1500000)", Mul(-1, -1500000), 1},
		{"Mul(1, 1)", Mul(1, 1), 0},
		{"Mul(-1, 1)", Mul(-1, 1), -1},
		{"Mul(-2, 500000)", Mul(-2, 500000), -1},
		{"Mul(0, least)", Mul(0, least), 0},
		{"Mul(1 << 62, 2000000)", Mul(1<<62, 2000000), most},
		{"Mul(1 << 62, -2000000)", Mul(1<<62, -2000000), least},
		{"Mul(1 << 62, -2000001)", Mul(1<<62, -2000001), least},
		{"Mul(least, 1000000)", Mul(least, 1000000), least},
		{"Mul(least, -1000000)", Mul(least, -1000000), most},
		{"Mul(least, 2000000)", Mul(least, 2000000), least},
		{"Mul(most, 1000000)", Mul(most, 1000000), most},
		{"Mul(most, most)", Mul(most, most), most},
		{"Mul(least, least)", Mul(least, least), most},
		{"Mul(least, most)", Mul(least, most), least},
	})
}

func TestP1_2AgainstBig(t *testing.T) {
	for _, a := range edges() {
		for _, b := range edges() {
			if got, want := Mul(a, b), bigHeld(bigDown(bigTimes(a, b), bigOf(api.One))); got != want {
				t.Errorf("Mul(%d, %d) = %d, want %d", a, b, got, want)
			}
		}
	}
}

func TestP1_3Examples(t *testing.T) {
	for _, x := range []struct {
		a, b, want int64
		ok         bool
	}{
		{6000000, 3000000, 2000000, true},
		{1, 3000000, 0, true},
		{-1, 3000000, -1, true},
		{1, -3000000, -1, true},
		{-1, -3000000, 0, true},
		{7, -2, -3500000, true},
		{-10000000, 3000000, -3333334, true},
		{10000000, 3000000, 3333333, true},
		{5, 0, 0, false},
		{0, 0, 0, false},
		{most, 0, 0, false},
		{least, 0, 0, false},
		{0, least, 0, true},
		{most, 1, most, true},
		{most, -1, least, true},
		{least, 1, least, true},
		{least, -1, most, true},
		{least, -1000000, most, true},
		{most, -1000000, least + 1, true},
		{least, 1000000, least, true},
		{most, least, -1000000, true},
		{least, least, 1000000, true},
		{least, most, -1000001, true},
	} {
		if got, ok := Div(x.a, x.b); got != x.want || ok != x.ok {
			t.Errorf("Div(%d, %d) = %d, %t, want %d, %t", x.a, x.b, got, ok, x.want, x.ok)
		}
	}
}

func TestP1_3AgainstBig(t *testing.T) {
	for _, a := range edges() {
		for _, b := range edges() {
			var want int64
			if b != 0 {
				want = bigHeld(bigDown(bigTimes(a, api.One), bigOf(b)))
			}
			if got, ok := Div(a, b); got != want || ok != (b != 0) {
				t.Errorf("Div(%d, %d) = %d, %t, want %d, %t", a, b, got, ok, want, b != 0)
			}
		}
	}
}

func TestP1_4Examples(t *testing.T) {
	compare(t, []row{
		{"Floor(0)", Floor(0), 0},
		{"Floor(-1)", Floor(-1), -1000000},
		{"Floor(1)", Floor(1), 0},
		{"Floor(1000000)", Floor(1000000), 1000000},
		{"Floor(-1000000)", Floor(-1000000), -1000000},
		{"Floor(-1000001)", Floor(-1000001), -2000000},
		{"Floor(1999999)", Floor(1999999), 1000000},
		{"Floor(most)", Floor(most), 9223372036854000000},
		{"Floor(least)", Floor(least), least},
		{"Floor(-9223372036854000000)", Floor(-9223372036854000000), -9223372036854000000},
		{"Floor(-9223372036854000001)", Floor(-9223372036854000001), least},
		{"Ceil(0)", Ceil(0), 0},
		{"Ceil(-1)", Ceil(-1), 0},
		{"Ceil(1)", Ceil(1), 1000000},
		{"Ceil(1000000)", Ceil(1000000), 1000000},
		{"Ceil(1000001)", Ceil(1000001), 2000000},
		{"Ceil(-1000000)", Ceil(-1000000), -1000000},
		{"Ceil(-1999999)", Ceil(-1999999), -1000000},
		{"Ceil(most)", Ceil(most), most},
		{"Ceil(least)", Ceil(least), -9223372036854000000},
		{"Ceil(9223372036854000000)", Ceil(9223372036854000000), 9223372036854000000},
		{"Ceil(9223372036854000001)", Ceil(9223372036854000001), most},
	})
}

func TestP1_4AgainstBig(t *testing.T) {
	one := bigOf(api.One)
	for _, a := range edges() {
		down := bigDown(bigOf(a), one)
		if got, want := Floor(a), bigHeld(down.Mul(down, one)); got != want {
			t.Errorf("Floor(%d) = %d, want %d", a, got, want)
		}
		up := bigUp(bigOf(a), one)
		if got, want := Ceil(a), bigHeld(up.Mul(up, one)); got != want {
			t.Errorf("Ceil(%d) = %d, want %d", a, got, want)
		}
	}
}

func TestP1_5Examples(t *testing.T) {
	compare(t, []row{
		{"Scale(7, 1, 2)", Scale(7, 1, 2), 3},
		{"Scale(-7, 1, 2)", Scale(-7, 1, 2), -4},
		{"Scale(7, -1, 2)", Scale(7, -1, 2), 0},
		{"Scale(7, 1, 0)", Scale(7, 1, 0), 0},
		{"Scale(7, 1, -2)", Scale(7, 1, -2), 0},
		{"Scale(7, -1, -2)", Scale(7, -1, -2), 0},
		{"Scale(7, least, 1)", Scale(7, least, 1), 0},
		{"Scale(7, 1, least)", Scale(7, 1, least), 0},
		{"Scale(7, 0, 1)", Scale(7, 0, 1), 0},
		{"Scale(-7, 0, 2)", Scale(-7, 0, 2), 0},
		{"Scale(5, 3600, 1)", Scale(5, 3600, 1), 18000},
		{"Scale(most, 1, 1)", Scale(most, 1, 1), most},
		{"Scale(least, 1, 1)", Scale(least, 1, 1), least},
		{"Scale(most, 2, 1)", Scale(most, 2, 1), most},
		{"Scale(least, 2, 1)", Scale(least, 2, 1), least},
		{"Scale(most, most, most)", Scale(most, most, most), most},
		{"Scale(least, most, most)", Scale(least, most, most), least},
		{"Scale(least, most, 1)", Scale(least, most, 1), least},
		{"Scale(-1, 1, most)", Scale(-1, 1, most), -1},
		{"Scale(1, 1, most)", Scale(1, 1, most), 0},
	})
}

func TestP1_5AgainstBig(t *testing.T) {
	for _, a := range edges() {
		for _, num := range edges() {
			for _, den := range edges() {
				var want int64
				if num >= 0 && den >= 1 {
					want = bigHeld(bigDown(bigTimes(a, num), bigOf(den)))
				}
				if got := Scale(a, num, den); got != want {
					t.Fatalf("Scale(%d, %d, %d) = %d, want %d", a, num, den, got, want)
				}
			}
		}
	}
}

func TestP1_6Examples(t *testing.T) {
	compare(t, []row{
		{"Whole(0)", Whole(0), 0},
		{"Whole(3)", Whole(3), 3000000},
		{"Whole(-3)", Whole(-3), -3000000},
		{"Whole(9223372036854)", Whole(9223372036854), 9223372036854000000},
		{"Whole(9223372036855)", Whole(9223372036855), most},
		{"Whole(-9223372036854)", Whole(-9223372036854), -9223372036854000000},
		{"Whole(-9223372036855)", Whole(-9223372036855), least},
		{"Whole(most)", Whole(most), most},
		{"Whole(least)", Whole(least), least},
		{"Count(0)", Count(0), 0},
		{"Count(1)", Count(1), 1},
		{"Count(2000000)", Count(2000000), 2},
		{"Count(2000001)", Count(2000001), 3},
		{"Count(-1)", Count(-1), 0},
		{"Count(-999999)", Count(-999999), 0},
		{"Count(-1000000)", Count(-1000000), -1},
		{"Count(-1000001)", Count(-1000001), -1},
		{"Count(9223372036854000000)", Count(9223372036854000000), 9223372036854},
		{"Count(9223372036854000001)", Count(9223372036854000001), 9223372036854},
		{"Count(most)", Count(most), 9223372036854},
		{"Count(least)", Count(least), -9223372036854},
	})
}

func TestP1_6AgainstBig(t *testing.T) {
	for _, a := range edges() {
		if got, want := Whole(a), bigHeld(bigTimes(a, api.One)); got != want {
			t.Errorf("Whole(%d) = %d, want %d", a, got, want)
		}
		up := bigUp(bigOf(a), bigOf(api.One))
		held := bigHeld(up.Mul(up, bigOf(api.One)))
		if got, want := Count(a), bigDown(bigOf(held), bigOf(api.One)).Int64(); got != want {
			t.Errorf("Count(%d) = %d, want %d", a, got, want)
		}
	}
}

func TestCallsNothingButApi(t *testing.T) {
	files, err := filepath.Glob("*.go")
	if err != nil {
		t.Fatal(err)
	}
	for _, name := range files {
		if strings.HasSuffix(name, "_test.go") {
			continue
		}
		file, err := parser.ParseFile(token.NewFileSet(), name, nil, parser.ImportsOnly)
		if err != nil {
			t.Fatal(err)
		}
		for _, spec := range file.Imports {
			path := strings.Trim(spec.Path.Value, `"`)
			if strings.HasPrefix(path, "capstan/") && path != "capstan/api" {
				t.Errorf("%s imports %s", name, path)
			}
		}
	}
}
