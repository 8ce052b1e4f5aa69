package dim

import (
	"math/big"
	"regexp"
	"strconv"
	"strings"
	"testing"

	"capstan/api"
)

type reading struct {
	text string
	unit api.Unit
	at   int
	err  api.Errno
}

func compareReads(t *testing.T, rows []reading) {
	t.Helper()
	for _, x := range rows {
		if unit, at, err := Read(x.text); unit != x.unit || at != x.at || err != x.err {
			t.Errorf("Read(%q) = %v, %d, %d, want %v, %d, %d", x.text, unit, at, err, x.unit, x.at, x.err)
		}
	}
}

func good(text string, num, den int64, exponents ...int) reading {
	var d api.Dim
	copy(d[:], exponents)
	return reading{text: text, unit: api.Unit{Num: num, Den: den, Dim: d}}
}

func bad(text string, at int, err api.Errno) reading {
	return reading{text: text, at: at, err: err}
}

func TestP2_1Examples(t *testing.T) {
	compareReads(t, []reading{
		good("req/s", 1, 1, -1, 1),
		good("ms", 1, 1000, 1),
		good("kreq/min", 50, 3, -1, 1),
		good("s^2*s", 1, 1, 3),
		good("pct", 1, 100),
		good("s/s", 1, 1),
		good("GiB/GiB*GiB", 1<<30, 1, 0, 0, 1),
		bad("", 0, api.ErrUnit),
		bad("s*", 2, api.ErrUnit),
		bad("s^0", 2, api.ErrUnit),
		bad("s^1000", 2, api.ErrUnit),
		bad("sec", 0, api.ErrUnit),
		bad("s 2", 1, api.ErrUnit),
		bad("s^9", 0, api.ErrBig),
		bad("req/GiB^2", 4, api.ErrBig),
	})
}

func TestP2_1Names(t *testing.T) {
	compareReads(t, []reading{
		good("one", 1, 1), good("pct", 1, 100),
		good("s", 1, 1, 1), good("ms", 1, 1000, 1), good("min", 60, 1, 1), good("h", 3600, 1, 1), good("d", 86400, 1, 1),
		good("req", 1, 1, 0, 1), good("kreq", 1000, 1, 0, 1),
		good("B", 1, 1, 0, 0, 1), good("kB", 1000, 1, 0, 0, 1), good("MB", 1000000, 1, 0, 0, 1),
		good("KiB", 1024, 1, 0, 0, 1), good("MiB", 1048576, 1, 0, 0, 1), good("GiB", 1073741824, 1, 0, 0, 1),
		good("rep", 1, 1, 0, 0, 0, 1),
		good("core", 1, 1, 0, 0, 0, 0, 1), good("mcore", 1, 1000, 0, 0, 0, 0, 1),
	})
	for _, wrong := range []string{"S", "b", "KB", "kb", "mB", "Kib", "GB", "TiB", "sec", "ss", "o", "ones", "reqs", "cores", "Rep", "m", "x", "percent"} {
		compareReads(t, []reading{bad(wrong, 0, api.ErrUnit), bad("s/"+wrong+"^2", 2, api.ErrUnit)})
	}
}

func TestP2_1Length(t *testing.T) {
	most := strings.Repeat("one/", 15) + "core"
	if len(most) != api.MaxText {
		t.Fatal(len(most))
	}
	compareReads(t, []reading{
		good(most, 1, 1, 0, 0, 0, 0, -1),
		bad(most+"*", 0, api.ErrLong),
		bad(most+"s", 0, api.ErrLong),
		bad(most[:60]+"s^01", 62, api.ErrUnit),
		bad(most[:60]+"one*", api.MaxText, api.ErrUnit),
		bad(strings.Repeat("s*", 32), 16, api.ErrBig),
		bad(strings.Repeat("s*", 32)+"s", 0, api.ErrLong),
		bad(strings.Repeat("?", api.MaxText), 0, api.ErrUnit),
		bad(strings.Repeat("?", api.MaxText+1), 0, api.ErrLong),
		bad(strings.Repeat("é", api.MaxText/2), 0, api.ErrUnit), // bytes, not runes
		bad(strings.Repeat("é", api.MaxText/2)+"s", 0, api.ErrLong),
		bad(strings.Repeat("s^9", 1000), 0, api.ErrLong),
	})
}

func TestP2_1WantedFactor(t *testing.T) {
	compareReads(t, []reading{
		bad("*", 0, api.ErrUnit), bad("/s", 0, api.ErrUnit), bad("^2", 0, api.ErrUnit), bad(" s", 0, api.ErrUnit), bad("2", 0, api.ErrUnit),
		bad("s/", 2, api.ErrUnit), bad("s*/s", 2, api.ErrUnit), bad("s**s", 2, api.ErrUnit), bad("s* s", 2, api.ErrUnit),
		bad("s/1", 2, api.ErrUnit), bad("ms*min/", 7, api.ErrUnit), bad("s^2/", 4, api.ErrUnit), bad("s^2*sec", 4, api.ErrUnit),
		bad("é", 0, api.ErrUnit), bad("s*é", 2, api.ErrUnit), bad("\xff", 0, api.ErrUnit), bad("\x00", 0, api.ErrUnit),
		bad("s*`", 2, api.ErrUnit), bad("s*{", 2, api.ErrUnit), bad("s*@", 2, api.ErrUnit), bad("s*[", 2, api.ErrUnit),
	})
}

func TestP2_1BehindFactor(t *testing.T) {
	compareReads(t, []reading{
		bad("s ", 1, api.ErrUnit), bad("s2", 1, api.ErrUnit), bad("s-s", 1, api.ErrUnit), bad("s\x00", 1, api.ErrUnit), bad("sé", 1, api.ErrUnit),
		bad("s`", 1, api.ErrUnit), bad("s{", 1, api.ErrUnit), bad("s@", 1, api.ErrUnit), bad("s[", 1, api.ErrUnit),
		bad("s^2 ", 3, api.ErrUnit), bad("s^2s", 3, api.ErrUnit), bad("s^2^3", 3, api.ErrUnit), bad("s^2^", 3, api.ErrUnit), bad("s^2:", 3, api.ErrUnit),
		bad("s*ms^2.", 6, api.ErrUnit),
	})
}

func TestP2_1Number(t *testing.T) {
	compareReads(t, []reading{
		good("s^1", 1, 1, 1), good("s^8", 1, 1, 8), good("one^10", 1, 1), good("one^99", 1, 1), good("one^100", 1, 1), good("one^999", 1, 1),
		bad("one^1000", 4, api.ErrUnit), bad("one^9999", 4, api.ErrUnit), bad("one^99999999999999999999", 4, api.ErrUnit),
		bad("one^0", 4, api.ErrUnit), bad("one^01", 4, api.ErrUnit), bad("one^007", 4, api.ErrUnit), bad("one^00", 4, api.ErrUnit), bad("one^0001", 4, api.ErrUnit),
		bad("one^", 4, api.ErrUnit), bad("one^-1", 4, api.ErrUnit), bad("one^+1", 4, api.ErrUnit), bad("one^x", 4, api.ErrUnit),
		bad("one^ 1", 4, api.ErrUnit), bad("one^^1", 4, api.ErrUnit), bad("one^*s", 4, api.ErrUnit), bad("one^\xd9\xa1", 4, api.ErrUnit),
		bad("s/one^1000", 6, api.ErrUnit), bad("s^1_0", 3, api.ErrUnit), bad("one^1x", 5, api.ErrUnit), bad("one^/", 4, api.ErrUnit), bad("one^:", 4, api.ErrUnit),
	})
}

func TestP2_1Quotients(t *testing.T) {
	compareReads(t, []reading{
		good("s/s*s", 1, 1, 1), good("s/s/s", 1, 1, -1), good("one/s*req", 1, 1, -1, 1), good("one/s/req", 1, 1, -1, -1),
		good("req/s^2*B", 1, 1, -2, 1, 1), good("req/min^2", 1, 3600, -2, 1), good("h/min", 60, 1), good("min/h", 1, 60),
		good("one/ms", 1000, 1, -1), good("one/ms^2*ms", 1000, 1, -1), good("pct/pct", 1, 1), good("one/pct", 100, 1),
		good("kB*min/d/ms", 6250, 9, -1, 0, 1), good("d*d/h^2", 576, 1), good("core*ms/mcore/s", 1, 1),
	})
}

func TestP2_1Factors(t *testing.T) {
	compareReads(t, []reading{
		good("MB^2*kB", api.MaxFactor, 1, 0, 0, 3),
		bad("MB^2*KiB", 5, api.ErrBig),
		bad("KiB*MB^2", 4, api.ErrBig),
		good("ms^5", 1, api.MaxFactor, 5),
		bad("ms^5*pct", 5, api.ErrBig),
		bad("ms^6", 0, api.ErrBig),
		good("one/MB^2/kB", 1, api.MaxFactor, 0, 0, -3),
		bad("one/MB^2/kB/KiB", 12, api.ErrBig),
		good("pct^7", 1, 100000000000000), bad("pct^8", 0, api.ErrBig), bad("pct^999", 0, api.ErrBig), bad("one/pct^8", 4, api.ErrBig),
		good("MB^2*kB*one", api.MaxFactor, 1, 0, 0, 3),
		good("MB^2*kB*pct", 10000000000000, 1, 0, 0, 3),
		good("MB^2*kB/MB*MB", api.MaxFactor, 1, 0, 0, 3),
		good("ms^5*MB/MB", 1, api.MaxFactor, 5),
		good("ms^5*MB^2*kB", 1, 1, 5, 0, 3),
		good("ms^5*KiB", 1, 976562500000, 5, 0, 1),
		bad("ms^5/MB*MB", 5, api.ErrBig),
		bad("GiB*GiB/GiB", 4, api.ErrBig),
		bad("KiB^4*GiB", 6, api.ErrBig),      // 2^70, of which an int64 would hold 0
		bad("one/KiB^4/GiB", 10, api.ErrBig), // likewise below the line
		bad("GiB^3/GiB^2", 0, api.ErrBig),
		bad("GiB^2?", 0, api.ErrBig),
		bad("GiB^2*x", 0, api.ErrBig),
		bad("GiB^1000", 4, api.ErrUnit),
	})
}

func TestP2_1Exponents(t *testing.T) {
	compareReads(t, []reading{
		good("s^8", 1, 1, 8), good("one/s^8", 1, 1, -8), bad("one/s^9", 4, api.ErrBig), bad("s^8*s", 4, api.ErrBig), bad("one/s^8/s", 8, api.ErrBig),
		good("s^8/s*s", 1, 1, 8), bad("s^8*s/s", 4, api.ErrBig), bad("s^9/s", 0, api.ErrBig),
		good("B^8/B^16", 1, 1, 0, 0, -8), bad("B^8/B^17", 4, api.ErrBig),
		good("s^8*req^8*B^8*rep^8*core^8", 1, 1, 8, 8, 8, 8, 8),
		good("one/s^8/req^8/B^8/rep^8/core^8", 1, 1, -8, -8, -8, -8, -8),
		bad("s^8*req^8*B^8*rep^8*core^9", 20, api.ErrBig),
		bad("s^999", 0, api.ErrBig), bad("s^9 ", 0, api.ErrBig), bad("s^8*s^2?", 4, api.ErrBig),
	})
}

var (
	letters = regexp.MustCompile(`^[a-zA-Z]+`)
	digits  = regexp.MustCompile(`^[0-9]+`)
	numbers = regexp.MustCompile(`^[1-9][0-9]{0,2}$`)
)

// slowRead reads by fractions without bounds, as the chapter says it.
func slowRead(text string) (api.Unit, int, api.Errno) {
	if len(text) > api.MaxText {
		return api.Unit{}, 0, api.ErrLong
	}
	value, d := big.NewRat(1, 1), api.Dim{}
	at, sign := 0, 1
	for {
		begin := at
		unit, count := api.Unit{}, 1
		name := letters.FindString(text[at:])
		for _, row := range names {
			if row.name == name {
				unit = row.unit
			}
		}
		if unit.Num == 0 {
			return api.Unit{}, at, api.ErrUnit
		}
		at += len(name)
		if strings.HasPrefix(text[at:], "^") {
			run := digits.FindString(text[at+1:])
			if !numbers.MatchString(run) {
				return api.Unit{}, at + 1, api.ErrUnit
			}
			count, _ = strconv.Atoi(run)
			at += 1 + len(run)
		}
		for range count {
			one := big.NewRat(unit.Num, unit.Den)
			if sign < 0 {
				one.Inv(one)
			}
			value.Mul(value, one)
			big15 := big.NewInt(api.MaxFactor)
			if value.Num().Cmp(big15) > 0 || value.Denom().Cmp(big15) > 0 {
				return api.Unit{}, begin, api.ErrBig
			}
			for i := range d {
				d[i] += sign * unit.Dim[i]
				if d[i] > api.MaxExp || d[i] < -api.MaxExp {
					return api.Unit{}, begin, api.ErrBig
				}
			}
		}
		switch {
		case at == len(text):
			return api.Unit{Num: value.Num().Int64(), Den: value.Denom().Int64(), Dim: d}, 0, api.OK
		case text[at] == '*':
			sign = 1
		case text[at] == '/':
			sign = -1
		default:
			return api.Unit{}, at, api.ErrUnit
		}
		at++
	}
}

func compareSlow(t *testing.T, text string) {
	unit, at, err := Read(text)
	if wantUnit, wantAt, wantErr := slowRead(text); unit != wantUnit || at != wantAt || err != wantErr {
		t.Fatalf("Read(%q) = %v, %d, %d, want %v, %d, %d", text, unit, at, err, wantUnit, wantAt, wantErr)
	}
}

// Every text of a few pieces, wrong ones among them.
func TestP2_1AllShortTexts(t *testing.T) {
	pieces := []string{"s", "ms", "GiB", "one", "^", "2", "0", "9", "*", "/", " "}
	texts := []string{""}
	for range 4 {
		var longer []string
		for _, text := range texts {
			for _, piece := range pieces {
				longer = append(longer, text+piece)
			}
		}
		for _, text := range longer {
			compareSlow(t, text)
		}
		texts = longer
	}
}

// Long products of all names, by a rule that goes through them unevenly.
func TestP2_1LongProducts(t *testing.T) {
	seed := uint32(1)
	next := func(n int) int {
		seed = seed*1664525 + 1013904223
		return int(seed>>16) % n
	}
	for range 20000 {
		text := ""
		for i := range 1 + next(10) {
			if i > 0 {
				text += []string{"*", "/"}[next(2)]
			}
			text += names[next(len(names))].name
			if next(3) == 0 {
				text += "^" + strconv.Itoa(1+next(4))
			}
		}
		compareSlow(t, text)
	}
}
