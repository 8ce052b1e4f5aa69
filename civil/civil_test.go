package civil

import (
	"go/parser"
	"go/token"
	"math"
	"math/big"
	"path/filepath"
	"strconv"
	"strings"
	"testing"
	"time"

	"capstan/api"
)

const (
	lastYear  = 292277026596  // the year of the last int64
	firstYear = -292277022657 // the year of the first int64
)

func on(year int64, month, dayOfMonth int) api.Civil {
	return api.Civil{Year: year, Month: month, Day: dayOfMonth}
}

func at(c api.Civil, hours, minutes, seconds int) api.Civil {
	c.Hour, c.Minute, c.Second = hours, minutes, seconds
	return c
}

func week(c api.Civil, n int) api.Civil {
	c.Week = n
	return c
}

// moments are seconds with their dates, worked out by hand or taken from the chapter.
var moments = []struct {
	t int64
	c api.Civil
}{
	{0, week(on(1970, 1, 1), 4)},
	{1, week(at(on(1970, 1, 1), 0, 0, 1), 4)},
	{-1, week(at(on(1969, 12, 31), 23, 59, 59), 3)},
	{59, week(at(on(1970, 1, 1), 0, 0, 59), 4)},
	{60, week(at(on(1970, 1, 1), 0, 1, 0), 4)},
	{3599, week(at(on(1970, 1, 1), 0, 59, 59), 4)},
	{3600, week(at(on(1970, 1, 1), 1, 0, 0), 4)},
	{86399, week(at(on(1970, 1, 1), 23, 59, 59), 4)},
	{86400, week(on(1970, 1, 2), 5)},
	{86401, week(at(on(1970, 1, 2), 0, 0, 1), 5)},
	{-86400, week(on(1969, 12, 31), 3)},
	{-86401, week(at(on(1969, 12, 30), 23, 59, 59), 2)},
	{3 * 86400, week(on(1970, 1, 4), 0)},
	{-4 * 86400, week(on(1969, 12, 28), 0)},
	{-5 * 86400, week(on(1969, 12, 27), 6)},
	{31*86400 - 1, week(at(on(1970, 1, 31), 23, 59, 59), 6)},
	{31 * 86400, week(on(1970, 2, 1), 0)},
	{365*86400 - 1, week(at(on(1970, 12, 31), 23, 59, 59), 4)},
	{365 * 86400, week(on(1971, 1, 1), 5)},
	{951782399, week(at(on(2000, 2, 28), 23, 59, 59), 1)},
	{951782400, week(on(2000, 2, 29), 2)},
	{951868799, week(at(on(2000, 2, 29), 23, 59, 59), 2)},
	{951868800, week(on(2000, 3, 1), 3)},
	{-2203891201, week(at(on(1900, 2, 28), 23, 59, 59), 3)},
	{-2203891200, week(on(1900, 3, 1), 4)},
	{-719528 * 86400, week(on(0, 1, 1), 6)},
	{-719528*86400 - 1, week(at(on(-1, 12, 31), 23, 59, 59), 5)},
	{-719469 * 86400, week(on(0, 2, 29), 2)},
	{math.MaxInt64, at(on(lastYear, 12, 4), 15, 30, 7)},
	{math.MaxInt64 - 1, at(on(lastYear, 12, 4), 15, 30, 6)},
	{math.MaxInt64 - 55808, week(at(on(lastYear, 12, 3), 23, 59, 59), 6)},
	{math.MinInt64, at(on(firstYear, 1, 27), 8, 29, 52)},
	{math.MinInt64 + 1, at(on(firstYear, 1, 27), 8, 29, 53)},
	{math.MinInt64 + 55807, at(on(firstYear, 1, 27), 23, 59, 59)},
	{math.MinInt64 + 55808, week(on(firstYear, 1, 28), 1)},
}

func TestP3_1Moments(t *testing.T) {
	for _, x := range moments {
		if got := Of(x.t); got != x.c {
			t.Errorf("Of(%d) = %v, want %v", x.t, got, x.c)
		}
	}
}

func TestP3_2Moments(t *testing.T) {
	for _, x := range moments {
		expectSecond(t, x.c, x.t)
	}
}

func expectSecond(t *testing.T, c api.Civil, want int64) {
	t.Helper()
	if got, ok := Seconds(c); got != want || !ok {
		t.Errorf("Seconds(%v) = %d, %v, want %d, true", c, got, ok, want)
	}
}

func expectNone(t *testing.T, c api.Civil) {
	t.Helper()
	if got, ok := Seconds(c); got != 0 || ok {
		t.Errorf("Seconds(%v) = %d, %v, want 0, false", c, got, ok)
	}
}

func TestP3_2WeekIsNotLookedAt(t *testing.T) {
	for _, n := range []int{-1, 0, 3, 4, 6, 7, math.MinInt, math.MaxInt} {
		expectSecond(t, week(on(1970, 1, 1), n), 0)
		expectSecond(t, week(at(on(lastYear, 12, 4), 15, 30, 7), n), math.MaxInt64)
	}
}

func TestP3_2NoDate(t *testing.T) {
	far := []int{math.MinInt, math.MinInt32, 1 << 32, math.MaxInt}
	for _, n := range append(far, -1, 0, 13) {
		expectNone(t, on(2000, n, 1))
		expectNone(t, on(2000, n, 0))
	}
	// In the middle of a year, so that what lies beyond a bound is a second of the same year.
	for _, n := range append(far, -1, 0, 31) {
		expectNone(t, on(2000, 6, n))
	}
	for _, n := range append(far, -1, 24) {
		expectNone(t, at(on(2000, 6, 15), n, 30, 30))
	}
	for _, n := range append(far, -1, 60) {
		expectNone(t, at(on(2000, 6, 15), 12, n, 30))
		expectNone(t, at(on(2000, 6, 15), 12, 30, n))
	}
	expectNone(t, api.Civil{})
	// What is too much in one field isn't made up for in another.
	expectNone(t, at(on(2000, 6, 15), 12, -1, 60))
	expectNone(t, at(on(2000, 6, 15), -1, 60, 0))
	expectNone(t, at(on(2000, 5, 32), -24, 0, 0))
}

func TestP3_2LastDays(t *testing.T) {
	for _, year := range []int64{-400, -101, -100, -4, -1, 0, 1, 4, 100, 400, 1900, 1969, 1970, 2000, 2023, 2024, 2100} {
		for month := 1; month <= 12; month++ {
			last := Days(year, month)
			expectNone(t, on(year, month, 0))
			expectNone(t, on(year, month, last+1))
			before, ok := Seconds(at(on(year, month, last), 23, 59, 59))
			if !ok {
				t.Errorf("the last second of %d-%d is none", year, month)
			}
			next := on(year, month+1, 1)
			if month == 12 {
				next = on(year+1, 1, 1)
			}
			expectSecond(t, next, before+1)
		}
	}
	expectNone(t, on(1900, 2, 29))
	expectNone(t, on(-100, 2, 29))
	expectNone(t, on(2023, 2, 29))
	expectNone(t, on(2000, 2, 30))
}

func TestP3_2BeyondInt64(t *testing.T) {
	for _, c := range []api.Civil{
		at(on(lastYear, 12, 4), 15, 30, 8),
		at(on(lastYear, 12, 4), 15, 31, 0),
		at(on(lastYear, 12, 4), 23, 59, 59),
		on(lastYear, 12, 5),
		at(on(lastYear, 12, 31), 23, 59, 59),
		on(lastYear+1, 1, 1),
		at(on(firstYear, 1, 27), 8, 29, 51),
		on(firstYear, 1, 27),
		at(on(firstYear, 1, 26), 23, 59, 59),
		on(firstYear, 1, 1),
		at(on(firstYear-1, 12, 31), 23, 59, 59),
		on(math.MaxInt64, 1, 1),
		at(on(math.MaxInt64, 12, 31), 23, 59, 59),
		on(math.MaxInt64-1, 1, 1),
		on(math.MinInt64, 1, 1),
		at(on(math.MinInt64, 12, 31), 23, 59, 59),
		on(math.MinInt64+1, 1, 1),
	} {
		expectNone(t, c)
	}
}

// slowSeconds reckons without bounds; c is a date and time of the calendar.
func slowSeconds(c api.Civil) *big.Int {
	year := big.NewInt(c.Year)
	days := new(big.Int).Mul(year, big.NewInt(365))
	gone := new(big.Int).Sub(year, big.NewInt(1))
	for _, x := range []struct{ each, sign int64 }{{4, 1}, {100, -1}, {400, 1}} {
		leaps := new(big.Int).Div(gone, big.NewInt(x.each))
		days.Add(days, leaps.Mul(leaps, big.NewInt(x.sign)))
	}
	// Up to here days are counted from the first of January of the year 1, and 365 too many.
	for month := 1; month < c.Month; month++ {
		days.Add(days, big.NewInt(int64(Days(c.Year, month))))
	}
	days.Add(days, big.NewInt(int64(c.Day-1)-365-719162))
	t := days.Mul(days, big.NewInt(86400))
	return t.Add(t, big.NewInt(int64(c.Hour*3600+c.Minute*60+c.Second)))
}

func compareSlow(t *testing.T, c api.Civil) {
	t.Helper()
	if want := slowSeconds(c); want.IsInt64() {
		expectSecond(t, c, want.Int64())
	} else {
		expectNone(t, c)
	}
}

// Years in which a reckoning that wraps round at 2^64 seconds, or days, comes to a small number.
func TestP3_2YearsThatWrap(t *testing.T) {
	year := big.NewInt(cycleDays * 86400)
	for bit := uint(62); bit <= 90; bit++ {
		for times := int64(-3); times <= 3; times++ {
			n := new(big.Int).Lsh(big.NewInt(times*cycleYears), bit)
			n.Div(n, year)
			for off := int64(-3); off <= 3; off++ {
				for _, from := range []int64{0, 1970, firstYear, lastYear} {
					near := new(big.Int).Add(n, big.NewInt(from+off))
					if near.IsInt64() {
						compareSlow(t, on(near.Int64(), 1, 1))
						compareSlow(t, at(on(near.Int64(), 12, 31), 23, 59, 59))
					}
				}
			}
		}
	}
}

// numbers goes through int64 unevenly, small ones and great ones alike.
func numbers(n int, use func(v int64)) {
	seed := uint64(1)
	for range n {
		seed = seed*6364136223846793005 + 1442695040888963407
		use(int64(seed) >> (seed >> 8 % 64))
	}
}

func TestP3_2AllYears(t *testing.T) {
	numbers(50000, func(year int64) {
		month := int(uint64(year)%12) + 1
		compareSlow(t, at(on(year, month, Days(year, month)), 23, 59, 59))
		compareSlow(t, at(on(year, month, 1), 0, 0, 0))
	})
}

func TestP3_1ThereAndBack(t *testing.T) {
	numbers(100000, func(v int64) {
		c := Of(v)
		if slow := slowSeconds(c); !slow.IsInt64() || slow.Int64() != v {
			t.Fatalf("Of(%d) = %v, which is %v", v, c, slow)
		}
		expectSecond(t, c, v)
	})
}

// The library's own calendar, where it reaches.
func TestP3_1AsTheLibrary(t *testing.T) {
	numbers(100000, func(v int64) {
		v >>= 4
		u := time.Unix(v, 0).UTC()
		want := api.Civil{Year: int64(u.Year()), Month: int(u.Month()), Day: u.Day(),
			Hour: u.Hour(), Minute: u.Minute(), Second: u.Second(), Week: int(u.Weekday())}
		if got := Of(v); got != want {
			t.Fatalf("Of(%d) = %v, want %v", v, got, want)
		}
	})
}

// slowDays tells the days of the months by a rule of its own.
func slowDays(year int64, month int) int {
	switch month {
	case 4, 6, 9, 11:
		return 30
	case 2:
		if year%400 == 0 || year%4 == 0 && year%100 != 0 {
			return 29
		}
		return 28
	default:
		return 31
	}
}

// Each day of more than two cycles on either side of the year 0, one by one.
func TestP3EveryDay(t *testing.T) {
	c, second := week(on(-900, 1, 1), 1), int64(-1048246)*86400
	for c.Year < 2900 {
		if got := Of(second); got != c {
			t.Fatalf("Of(%d) = %v, want %v", second, got, c)
		}
		if got := Of(second + 86399); got != at(c, 23, 59, 59) {
			t.Fatalf("Of(%d) = %v, want %v, its last second", second+86399, got, c)
		}
		if got, ok := Seconds(c); got != second || !ok {
			t.Fatalf("Seconds(%v) = %d, %v, want %d", c, got, ok, second)
		}
		second += 86400
		c.Week = (c.Week + 1) % 7
		c.Day++
		if c.Day > slowDays(c.Year, c.Month) {
			c.Day = 1
			c.Month++
		}
		if c.Month > 12 {
			c.Month = 1
			c.Year++
		}
	}
}

func TestP3_3Leap(t *testing.T) {
	for year, want := range map[int64]bool{
		0: true, 1: false, 2: false, 3: false, 4: true, 96: true, 100: false, 104: true, 200: false, 300: false, 400: true,
		1900: false, 1970: false, 2000: true, 2023: false, 2024: true, 2100: false,
		-1: false, -2: false, -3: false, -4: true, -96: true, -100: false, -104: true, -200: false, -400: true, -800: true,
		// 2^63 ends on 75808, and 25 doesn't divide it.
		math.MaxInt64: false, math.MinInt64: true, math.MinInt64 + 8: false, math.MinInt64 + 208: true, math.MaxInt64 - 7: false, math.MaxInt64 - 207: true,
	} {
		if got := Leap(year); got != want {
			t.Errorf("Leap(%d) = %v", year, got)
		}
	}
}

func TestP3_3Days(t *testing.T) {
	for _, year := range []int64{-400, -100, -4, -1, 0, 1, 4, 100, 400, 1900, 1970, 2000, 2023, 2024, 2100, math.MaxInt64, math.MinInt64, math.MinInt64 + 8} {
		for month := 1; month <= 12; month++ {
			if got, want := Days(year, month), slowDays(year, month); got != want {
				t.Errorf("Days(%d, %d) = %d, want %d", year, month, got, want)
			}
		}
		for _, month := range []int{0, -1, -2, 13, 14, 1 << 32, 1<<32 + 1, math.MinInt, math.MaxInt} {
			if got := Days(year, month); got != 0 {
				t.Errorf("Days(%d, %d) = %d, want 0", year, month, got)
			}
		}
	}
	for month := -1000; month <= 1000; month++ {
		if got := Days(2000, month); (month < 1 || month > 12) != (got == 0) {
			t.Errorf("Days(2000, %d) = %d", month, got)
		}
	}
}

// The chapter's examples, as they stand there.
func TestP3Examples(t *testing.T) {
	expectSecond(t, at(on(1970, 1, 2), 0, 0, 1), 86401)
	expectNone(t, on(1900, 2, 29))
	if Days(2000, 2) != 29 || Days(1900, 2) != 28 || Days(1, 13) != 0 {
		t.Error("Days", Days(2000, 2), Days(1900, 2), Days(1, 13))
	}
	if !Leap(0) || Leap(-100) {
		t.Error("Leap", Leap(0), Leap(-100))
	}
}

// The package calls nothing of the project but api.
func TestCallsOnlyApi(t *testing.T) {
	files, err := filepath.Glob("*.go")
	if err != nil || len(files) == 0 {
		t.Fatal(files, err)
	}
	for _, name := range files {
		if strings.HasSuffix(name, "_test.go") {
			continue
		}
		file, err := parser.ParseFile(token.NewFileSet(), name, nil, parser.ImportsOnly)
		if err != nil {
			t.Fatal(err)
		}
		for _, spec := range file.Imports {
			if path, _ := strconv.Unquote(spec.Path.Value); strings.HasPrefix(path, "capstan/") && path != "capstan/api" {
				t.Errorf("%s imports %s", name, path)
			}
		}
	}
}
