package cron

import (
	"go/parser"
	"go/token"
	"math"
	"math/rand"
	"path/filepath"
	"strconv"
	"strings"
	"testing"
	"time"

	"capstan/api"
)

var everyMinute = api.Cron{Minute: allMinutes, Hour: allHours, Day: allDays, Month: allMonths, Week: allWeek}

// unformed answers schedules that each have one fault in one field, and some with more.
func unformed() []api.Cron {
	list := []api.Cron{{}, {Minute: math.MaxUint64, Hour: math.MaxUint64, Day: math.MaxUint64, Month: math.MaxUint64, Week: math.MaxUint64}}
	for _, change := range []func(*api.Cron){
		func(c *api.Cron) { c.Minute = 0 },
		func(c *api.Cron) { c.Hour = 0 },
		func(c *api.Cron) { c.Day = 0 },
		func(c *api.Cron) { c.Month = 0 },
		func(c *api.Cron) { c.Week = 0 },
		func(c *api.Cron) { c.Minute |= 1 << 60 },
		func(c *api.Cron) { c.Hour |= 1 << 24 },
		func(c *api.Cron) { c.Day |= 1 << 32 },
		func(c *api.Cron) { c.Month |= 1 << 13 },
		func(c *api.Cron) { c.Week |= 1 << 7 },
		func(c *api.Cron) { c.Day |= 1 },
		func(c *api.Cron) { c.Month |= 1 },
		func(c *api.Cron) { c.Minute |= 1 << 63 },
		func(c *api.Cron) { c.Hour |= 1 << 63 },
		func(c *api.Cron) { c.Day |= 1 << 63 },
		func(c *api.Cron) { c.Month |= 1 << 63 },
		func(c *api.Cron) { c.Week |= 1 << 63 },
		func(c *api.Cron) { c.Day = 1 },
		func(c *api.Cron) { c.Month = 1 },
		func(c *api.Cron) { c.Minute = 1 << 60 },
		func(c *api.Cron) { c.Week = 1 << 7 },
	} {
		c := everyMinute
		change(&c)
		list = append(list, c)
	}
	return list
}

func randomFormed(r *rand.Rand) api.Cron {
	pick := func(all uint64) uint64 {
		s := all
		for range r.Intn(4) {
			s &= r.Uint64() | r.Uint64()
		}
		if r.Intn(3) == 0 || s == 0 {
			s = all
		}
		return s
	}
	return api.Cron{Minute: pick(allMinutes), Hour: pick(allHours), Day: pick(allDays), Month: pick(allMonths), Week: pick(allWeek)}
}

func TestP4_2_Formed(t *testing.T) {
	for _, c := range unformed() {
		if Formed(c) {
			t.Error("formed:", c)
		}
	}
	for _, c := range []api.Cron{
		everyMinute,
		{Minute: 1, Hour: 1, Day: 2, Month: 2, Week: 1},
		{Minute: 1 << 59, Hour: 1 << 23, Day: 1 << 31, Month: 1 << 12, Week: 1 << 6},
	} {
		if !Formed(c) {
			t.Error("not formed:", c)
		}
	}
}

// slowNames asks the library's calendar.
func slowNames(c api.Cron, t int64) bool {
	at := time.Unix(t, 0).UTC()
	return c.Minute&(1<<at.Minute()) != 0 && c.Hour&(1<<at.Hour()) != 0 && c.Day&(1<<at.Day()) != 0 &&
		c.Month&(1<<at.Month()) != 0 && c.Week&(1<<at.Weekday()) != 0
}

func TestP4_2_NamesByEachField(t *testing.T) {
	const tuesday = 951827445 // 2000-02-29 12:30:45
	one := api.Cron{Minute: 1 << 30, Hour: 1 << 12, Day: 1 << 29, Month: 1 << 2, Week: 1 << 2}
	if !Names(one, tuesday) || !Names(everyMinute, tuesday) || Names(api.Cron{}, tuesday) {
		t.Error("the moment's own bits")
	}
	for i := range 5 {
		for n := range 64 {
			c := one
			into := []*uint64{&c.Minute, &c.Hour, &c.Day, &c.Month, &c.Week}[i]
			own := *into == 1<<n
			*into = 1 << n
			if Names(c, tuesday) != own {
				t.Error("alone", i, n)
			}
			*into = ^*into
			if Names(c, tuesday) == own {
				t.Error("all but", i, n)
			}
		}
	}
}

func TestP4_2_NamesOfSeconds(t *testing.T) {
	c := read(t, "0 3 * * *")
	for _, x := range []struct {
		t    int64
		want bool
	}{
		{3*3600 - 1, false}, {3 * 3600, true}, {3*3600 + 1, true}, {3*3600 + 59, true}, {3*3600 + 60, false},
		{-86400 + 3*3600 - 1, false}, {-86400 + 3*3600, true}, {-86400 + 3*3600 + 59, true}, {-86400 + 3*3600 + 60, false},
	} {
		if Names(c, x.t) != x.want {
			t.Error(x)
		}
	}
	both := read(t, "* * 13 * 5") // all five: a Friday the 13th, no other 13th and no other Friday
	for d := int64(0); d < 800; d++ {
		at := time.Unix(d*86400, 0).UTC()
		if Names(both, d*86400) != (at.Day() == 13 && at.Weekday() == time.Friday) {
			t.Error(at)
		}
	}
}

func TestP4_2_NamesOfAnyBits(t *testing.T) {
	full := api.Cron{Minute: math.MaxUint64, Hour: math.MaxUint64, Day: math.MaxUint64, Month: math.MaxUint64, Week: math.MaxUint64}
	beyond := api.Cron{Minute: ^uint64(allMinutes), Hour: ^uint64(allHours), Day: ^uint64(allDays), Month: ^uint64(allMonths), Week: ^uint64(allWeek)}
	r := rand.New(rand.NewSource(42))
	for range 3000 {
		at := r.Int63n(1<<36) - 1<<35
		if !Names(full, at) || Names(beyond, at) || Names(api.Cron{}, at) || !Names(everyMinute, at) {
			t.Fatal(at)
		}
		c := api.Cron{Minute: r.Uint64() | r.Uint64(), Hour: r.Uint64() | r.Uint64(), Day: r.Uint64() | r.Uint64(), Month: r.Uint64() | r.Uint64(), Week: r.Uint64() | r.Uint64()}
		if Names(c, at) != slowNames(c, at) {
			t.Fatal(c, at)
		}
	}
	for _, at := range []int64{math.MinInt64, math.MinInt64 + 1, math.MaxInt64 - 1, math.MaxInt64} {
		if !Names(full, at) || Names(beyond, at) || !Names(everyMinute, at) {
			t.Error(at)
		}
	}
	// 292277026596-12-04 15:30:07, a Sunday, and -292277022657-01-27 08:29:52, a Sunday
	if !Names(read(t, "30 15 4 12 0"), math.MaxInt64) || !Names(read(t, "29 8 27 1 0"), math.MinInt64) {
		t.Error("the ends of int64")
	}
	if Names(read(t, "29 8 27 1 0"), math.MaxInt64) || Names(read(t, "30 15 4 12 0"), math.MinInt64) {
		t.Error("the ends of int64, the wrong way round")
	}
}

// none stands where no moment is wanted; it is no multiple of 60.
const none = 1

func wantNext(t *testing.T, text string, from, want int64) {
	t.Helper()
	nextIs(t, read(t, text), from, want)
}

func nextIs(t *testing.T, c api.Cron, from, want int64) {
	t.Helper()
	n, ok := Next(c, from)
	if want == none && (n != 0 || ok) || want != none && (n != want || !ok) {
		t.Errorf("Next(%v, %d) = %d, %t, wanted %d", c, from, n, ok, want)
	}
}

func moment(text string) int64 {
	at, err := time.Parse("2006-01-02 15:04:05", text)
	if err != nil {
		panic(err)
	}
	return at.Unix()
}

func TestP4_4_NextExamples(t *testing.T) {
	wantNext(t, "0 0 29 2 *", 951868800, 1078012800)
	wantNext(t, "0 0 30 2 *", 0, none)
}

func TestP4_4_NextIsTheBeginningOfAMinute(t *testing.T) {
	for _, x := range []struct{ from, want int64 }{
		{0, 0}, {1, 60}, {59, 60}, {60, 60}, {61, 120}, {-1, 0}, {-59, 0}, {-60, -60}, {-61, -60},
		{86399, 86400}, {86400, 86400}, {86340, 86340}, {86341, 86400},
	} {
		nextIs(t, everyMinute, x.from, x.want)
	}
	for _, x := range []struct {
		text       string
		from, want string
	}{
		{"0 3 * * *", "2026-11-16 02:59:59", "2026-11-16 03:00:00"},
		{"0 3 * * *", "2026-11-16 03:00:00", "2026-11-16 03:00:00"},
		{"0 3 * * *", "2026-11-16 03:00:01", "2026-11-17 03:00:00"},
		{"0 3 * * *", "2026-11-16 03:00:59", "2026-11-17 03:00:00"},
		{"30 * * * *", "2026-11-16 03:30:01", "2026-11-16 04:30:00"},
		{"30 * * * *", "2026-11-16 23:30:01", "2026-11-17 00:30:00"},
		{"30 4,20 * * *", "2026-11-16 05:00:00", "2026-11-16 20:30:00"},
		{"30,40 4,20 * * *", "2026-11-16 04:35:00", "2026-11-16 04:40:00"},
		{"30,40 4,20 * * *", "2026-11-16 04:40:01", "2026-11-16 20:30:00"},
		{"30,40 4,20 * * *", "2026-11-16 20:40:01", "2026-11-17 04:30:00"},
		{"0 0 * * *", "2026-12-31 23:59:01", "2027-01-01 00:00:00"},
		{"59 23 * * *", "2026-12-31 23:59:00", "2026-12-31 23:59:00"},
		{"59 23 * * *", "2026-12-31 23:59:01", "2027-01-01 23:59:00"},
		{"0 0 1 1 *", "2026-01-01 00:00:01", "2027-01-01 00:00:00"},
		{"0 0 31 * *", "2026-11-16 00:00:00", "2026-12-31 00:00:00"},
		{"0 12 13 * 5", "2026-03-13 12:00:01", "2026-11-13 12:00:00"},
		{"0 12 * * 0", "2026-11-16 00:00:00", "2026-11-22 12:00:00"},
		{"0 0 29 2 *", "2096-02-29 00:00:01", "2104-02-29 00:00:00"},
	} {
		wantNext(t, x.text, moment(x.from), moment(x.want))
	}
}

func TestP4_4_NextLooksOn10228Days(t *testing.T) {
	// The 29th of February is a Tuesday in 2000 and again in 2028: 10227 days later.
	wantNext(t, "0 0 29 2 2", moment("2000-02-29 00:00:00"), moment("2000-02-29 00:00:00"))
	wantNext(t, "0 0 29 2 2", moment("2000-02-29 00:00:01"), moment("2028-02-29 00:00:00"))
	wantNext(t, "0 0 29 2 2", moment("2000-02-29 23:59:59"), moment("2028-02-29 00:00:00"))
	wantNext(t, "59 23 29 2 2", moment("2000-02-29 23:59:01"), moment("2028-02-29 23:59:00"))
	// It is a Saturday in 2076, and then no sooner than in 2116.
	last := moment("2116-02-29 00:00:00") - 10227*86400
	for _, text := range []string{"0 0 29 2 6", "59 23 29 2 6"} {
		c := read(t, text)
		want := moment("2116-02-29 00:00:00")
		if text[0] == '5' {
			want += 86340
		}
		nextIs(t, c, last, want)
		nextIs(t, c, last+86399, want)
		nextIs(t, c, last+5*86400, want)
		nextIs(t, c, last-1, none)
		nextIs(t, c, last-86400, none)
		nextIs(t, c, last-5*86400, none)
		nextIs(t, c, moment("2076-03-01 00:00:00"), none)
	}
	for _, text := range []string{"0 0 30 2 *", "0 0 31 2,4,6,9,11 *", "* * 30,31 2 *"} {
		for _, from := range []int64{0, 1, -1, 951782400, math.MinInt64, math.MaxInt64, math.MaxInt64 - 10300*86400} {
			wantNext(t, text, from, none)
		}
	}
}

func TestP4_4_NextOfWhatIsNotFormed(t *testing.T) {
	for _, c := range unformed() {
		for _, from := range []int64{0, 1, -1, math.MinInt64, math.MaxInt64} {
			nextIs(t, c, from, none)
		}
	}
}

func TestP4_4_NextAtTheEndsOfInt64(t *testing.T) {
	const least, most = math.MinInt64, math.MaxInt64
	// The last int64 is 292277026596-12-04 15:30:07, the first one -292277022657-01-27 08:29:52.
	for _, x := range []struct {
		text       string
		from, want int64
	}{
		{"* * * * *", most, none},
		{"* * * * *", most - 6, none},
		{"* * * * *", most - 7, most - 7},
		{"* * * * *", most - 8, most - 7},
		{"30 15 * * *", most - 7, most - 7},
		{"30 15 * * *", most - 7 - 15*3600, most - 7},
		{"31 15 * * *", most - 3600, none},
		{"0 16 * * *", most - 3600, none},
		{"0 15 * * *", most, none},
		{"0 0 5 12 *", most - 86400, none},
		{"0 0 4 12 *", most - 86400, most - 7 - 15*3600 - 30*60},
		{"0 0 4 12 *", most - 7 - 15*3600 - 30*60, most - 7 - 15*3600 - 30*60},
		{"0 0 4 12 *", most - 7 - 15*3600 - 30*60 + 1, none},
		{"0 15 4 12 0", most - 7 - 200*86400, most - 7 - 1800},
		{"* * * * *", least, least + 8},
		{"* * * * *", least + 8, least + 8},
		{"* * * * *", least + 9, least + 68},
		{"29 8 * * *", least, least + 8 - 60 + 86400},
		{"30 8 27 1 *", least, least + 8},
		{"0 0 28 1 *", least, least + 8 + 15*3600 + 1800},
		{"0 0 * * *", least, least + 8 + 15*3600 + 1800},
		{"59 23 * * *", least, least + 8 + 15*3600 + 1740},
	} {
		wantNext(t, x.text, x.from, x.want)
	}
}

// slowNext looks at each minute, up to the end of the days that are looked at.
func slowNext(c api.Cron, from int64) int64 {
	first := time.Unix(from, 0).UTC()
	end := first.Truncate(24*time.Hour).AddDate(0, 0, 10228).Unix()
	at := first.Truncate(time.Minute)
	if at.Before(first) {
		at = at.Add(time.Minute)
	}
	for ; at.Unix() < end; at = at.Add(time.Minute) {
		if slowNames(c, at.Unix()) {
			return at.Unix()
		}
	}
	return none
}

func TestP4_4_NextAgreesWithLookingAtEachMinute(t *testing.T) {
	r := rand.New(rand.NewSource(44))
	pick := func(all uint64) uint64 {
		s := all
		for range r.Intn(4) {
			s &= r.Uint64()
		}
		if s == 0 {
			return all
		}
		return s
	}
	for range 400 {
		c := api.Cron{Minute: pick(allMinutes), Hour: pick(allHours), Day: pick(allDays), Month: pick(allMonths) | 1<<(1+r.Intn(12)), Week: pick(allWeek)}
		from := r.Int63n(1<<33) - 1<<32
		nextIs(t, c, from, slowNext(c, from))
	}
}

func TestP4_4_NextIsNamedAndNoneLiesBetween(t *testing.T) {
	r := rand.New(rand.NewSource(45))
	for range 1000 {
		c := randomFormed(r)
		from := int64(r.Uint64())
		n, ok := Next(c, from)
		if !ok {
			continue
		}
		if n < from || n%60 != 0 || !Names(c, n) {
			t.Fatal(c, from, n)
		}
		for range 50 {
			between := from + r.Int63n(n-from+1)
			if again, ok := Next(c, between); !ok || again != n {
				t.Fatal(c, from, between, n, again)
			}
		}
	}
}

func TestCallsOnlyApiAndCivil(t *testing.T) {
	files, err := filepath.Glob("*.go")
	if err != nil || len(files) == 0 {
		t.Fatal(files, err)
	}
	for _, name := range files {
		if strings.HasSuffix(name, "_test.go") {
			continue
		}
		file, err := parser.ParseFile(token.NewFileSet(), name, nil, parser.ImportsOnly)
		if err != nil {
			t.Fatal(err)
		}
		for _, spec := range file.Imports {
			path, _ := strconv.Unquote(spec.Path.Value)
			if strings.HasPrefix(path, "capstan/") && path != "capstan/api" && path != "capstan/civil" {
				t.Errorf("%s imports %s", name, path)
			}
		}
	}
}
