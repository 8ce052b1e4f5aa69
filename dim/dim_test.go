package dim

import (
	"go/parser"
	"go/token"
	"math"
	"path/filepath"
	"strconv"
	"strings"
	"testing"

	"capstan/api"
	"capstan/fix"
)

func TestP2_2Text(t *testing.T) {
	for _, x := range []struct {
		dim  api.Dim
		want string
	}{
		{api.Dim{}, "1"},
		{api.Dim{1}, "s"},
		{api.Dim{0, 1}, "req"},
		{api.Dim{0, 0, 1}, "B"},
		{api.Dim{0, 0, 0, 1}, "rep"},
		{api.Dim{0, 0, 0, 0, 1}, "core"},
		{api.Dim{-1, 1}, "s^-1*req"},
		{api.Dim{1, 1, 1, 1, 1}, "s*req*B*rep*core"},
		{api.Dim{-1, -1, -1, -1, -1}, "s^-1*req^-1*B^-1*rep^-1*core^-1"},
		{api.Dim{2, 0, -3, 0, 8}, "s^2*B^-3*core^8"},
		{api.Dim{0, 0, 0, -2, 1}, "rep^-2*core"},
		{api.Dim{9, -9, 10}, "s^9*req^-9*B^10"},
		{api.Dim{math.MaxInt, math.MinInt, 0, 12, -1000000}, "s^9223372036854775807*req^-9223372036854775808*rep^12*core^-1000000"},
	} {
		if got := Text(x.dim); got != x.want {
			t.Errorf("Text(%v) = %q, want %q", x.dim, got, x.want)
		}
	}
}

type joining struct {
	a, b, want api.Dim
	ok         bool
}

func compareJoins(t *testing.T, name string, call func(a, b api.Dim) (api.Dim, bool), rows []joining) {
	t.Helper()
	for _, x := range rows {
		if got, ok := call(x.a, x.b); got != x.want || ok != x.ok {
			t.Errorf("%s(%v, %v) = %v, %t, want %v, %t", name, x.a, x.b, got, ok, x.want, x.ok)
		}
	}
}

func TestP2_3Mul(t *testing.T) {
	compareJoins(t, "Mul", Mul, []joining{
		{api.Dim{}, api.Dim{}, api.Dim{}, true},
		{api.Dim{1, 2, 3, 4, 5}, api.Dim{3, -2, -1, 0, 3}, api.Dim{4, 0, 2, 4, 8}, true},
		{api.Dim{8}, api.Dim{1}, api.Dim{}, false},
		{api.Dim{7}, api.Dim{1}, api.Dim{8}, true},
		{api.Dim{-7}, api.Dim{-1}, api.Dim{-8}, true},
		{api.Dim{-8}, api.Dim{-1}, api.Dim{}, false},
		{api.Dim{1, 2, 3, 4, 8}, api.Dim{0, 0, 0, 0, 1}, api.Dim{}, false},
		{api.Dim{1, 2, 3, 4, -8}, api.Dim{0, 0, 0, 0, -1}, api.Dim{}, false},
		{api.Dim{9}, api.Dim{-1}, api.Dim{8}, true},
		{api.Dim{9}, api.Dim{}, api.Dim{}, false},
		{api.Dim{0, 0, -9}, api.Dim{}, api.Dim{}, false},
		{api.Dim{math.MaxInt}, api.Dim{-math.MaxInt + 3}, api.Dim{3}, true},
		{api.Dim{math.MinInt}, api.Dim{math.MaxInt}, api.Dim{-1}, true},
		{api.Dim{math.MaxInt}, api.Dim{math.MaxInt}, api.Dim{}, false},
		{api.Dim{math.MinInt}, api.Dim{math.MinInt}, api.Dim{}, false},
		{api.Dim{math.MinInt + 1}, api.Dim{math.MinInt + 2}, api.Dim{}, false},
		{api.Dim{0, 0, 0, 0, math.MinInt}, api.Dim{0, 0, 0, 0, math.MinInt}, api.Dim{}, false},
	})
}

func TestP2_3Div(t *testing.T) {
	compareJoins(t, "Div", Div, []joining{
		{api.Dim{}, api.Dim{}, api.Dim{}, true},
		{api.Dim{8, 1}, api.Dim{1, 2}, api.Dim{7, -1}, true},
		{api.Dim{1, 2, 3, 4, 5}, api.Dim{9, 2, -1, 0, -3}, api.Dim{-8, 0, 4, 4, 8}, true},
		{api.Dim{8}, api.Dim{-1}, api.Dim{}, false},
		{api.Dim{7}, api.Dim{-1}, api.Dim{8}, true},
		{api.Dim{-7}, api.Dim{1}, api.Dim{-8}, true},
		{api.Dim{-8}, api.Dim{1}, api.Dim{}, false},
		{api.Dim{1, 2, 3, 4, -8}, api.Dim{0, 0, 0, 0, 1}, api.Dim{}, false},
		{api.Dim{math.MinInt}, api.Dim{math.MinInt}, api.Dim{}, true},
		{api.Dim{math.MaxInt}, api.Dim{math.MaxInt - 8}, api.Dim{8}, true},
		{api.Dim{math.MinInt}, api.Dim{math.MaxInt}, api.Dim{}, false},
		{api.Dim{math.MaxInt}, api.Dim{math.MinInt}, api.Dim{}, false},
		{api.Dim{}, api.Dim{math.MinInt}, api.Dim{}, false},
		{api.Dim{-2}, api.Dim{math.MaxInt}, api.Dim{}, false},
		{api.Dim{0, 0, 0, 0, math.MaxInt}, api.Dim{0, 0, 0, 0, math.MinInt}, api.Dim{}, false},
	})
}

func TestP2_4Value(t *testing.T) {
	for _, x := range []struct {
		unit    api.Unit
		v, want int64
	}{
		{api.Unit{Num: 1, Den: 1000}, 5000000, 5000},
		{api.Unit{Num: 1, Den: 1000}, 999, 0},
		{api.Unit{Num: 1, Den: 1000}, -1, -1},
		{api.Unit{Num: 50, Den: 3}, 1000000, 16666666},
		{api.Unit{Num: 50, Den: 3}, -1000000, -16666667},
		{api.Unit{Num: 1, Den: 1}, math.MaxInt64, math.MaxInt64},
		{api.Unit{Num: 1, Den: 1}, math.MinInt64, math.MinInt64},
		{api.Unit{Num: 60, Den: 1}, math.MaxInt64 / 60, math.MaxInt64 / 60 * 60},
		{api.Unit{Num: 60, Den: 1}, math.MaxInt64/60 + 1, math.MaxInt64},
		{api.Unit{Num: 60, Den: 1}, math.MinInt64/60 - 1, math.MinInt64},
		{api.Unit{Num: api.MaxFactor, Den: 1}, math.MaxInt64, math.MaxInt64},
		{api.Unit{Num: api.MaxFactor, Den: api.MaxFactor}, math.MinInt64, math.MinInt64},
		{api.Unit{Num: 0, Den: 1}, 7, 0},
		{api.Unit{Num: -1, Den: 1}, 7, 0},
		{api.Unit{Num: 1, Den: 0}, 7, 0},
		{api.Unit{Num: 1, Den: -1}, 7, 0},
		{api.Unit{}, math.MinInt64, 0},
	} {
		if got := Value(x.unit, x.v); got != x.want {
			t.Errorf("Value(%v, %d) = %d, want %d", x.unit, x.v, got, x.want)
		}
		if got, scaled := Value(x.unit, x.v), fix.Scale(x.v, x.unit.Num, x.unit.Den); got != scaled {
			t.Errorf("Value(%v, %d) = %d, but Scale says %d", x.unit, x.v, got, scaled)
		}
	}
}

func TestP2_4ValueLeavesDimAside(t *testing.T) {
	with, without := api.Unit{Num: 3, Den: 2, Dim: api.Dim{math.MinInt, 9}}, api.Unit{Num: 3, Den: 2}
	if got, want := Value(with, 7), Value(without, 7); got != want || got != 10 {
		t.Errorf("Value with a dimension = %d, without %d, want 10", got, want)
	}
}

// A layer calls only those ahead of it.
func TestCallsOnlyLayersAhead(t *testing.T) {
	files, err := filepath.Glob("*.go")
	if err != nil || len(files) == 0 {
		t.Fatal(files, err)
	}
	for _, name := range files {
		if strings.HasSuffix(name, "_test.go") {
			continue
		}
		file, err := parser.ParseFile(token.NewFileSet(), name, nil, parser.ImportsOnly)
		if err != nil {
			t.Fatal(err)
		}
		for _, spec := range file.Imports {
			path, _ := strconv.Unquote(spec.Path.Value)
			if strings.HasPrefix(path, "capstan/") && path != "capstan/api" && path != "capstan/fix" {
				t.Errorf("%s imports %s", name, path)
			}
		}
	}
}
