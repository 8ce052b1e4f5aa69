package num

import (
	"math"
	"strconv"
	"strings"
	"testing"

	"capstan/api"
)

// lasts holds ReadSpan(text) against n.
func lasts(t *testing.T, text string, n int64) {
	t.Helper()
	if got, errno := ReadSpan(text); got != n || errno != api.OK {
		t.Errorf("ReadSpan(%q) = %d, %d, wanted %d", text, got, errno, n)
	}
}

// noSpan wants ErrNumber of ReadSpan(text), and 0 beside it.
func noSpan(t *testing.T, text string) {
	t.Helper()
	if got, errno := ReadSpan(text); got != 0 || errno != api.ErrNumber {
		t.Errorf("ReadSpan(%.80q) = %d, %d, wanted ErrNumber", text, got, errno)
	}
}

// spans holds SpanText(n) against text.
func spans(t *testing.T, n int64, text string) {
	t.Helper()
	if got, errno := SpanText(n); got != text || errno != api.OK {
		t.Errorf("SpanText(%d) = %q, %d, wanted %q", n, got, errno, text)
	}
}

func TestP10_3Examples(t *testing.T) {
	lasts(t, "1h30m", 5400)
	lasts(t, "90s", 90)
	lasts(t, "7d", 604800)
	for _, text := range []string{"7d1s", "30m1h", "1m1m", "0s", "5", "m", "", "01s", "1000000s"} {
		noSpan(t, text)
	}
}

// parts are the letters in order, each with its seconds.
func parts() []struct {
	letter  string
	seconds int64
} {
	return []struct {
		letter  string
		seconds int64
	}{{"d", 86400}, {"h", 3600}, {"m", 60}, {"s", 1}}
}

func TestP10_3EachSetOfParts(t *testing.T) {
	for set := range 16 {
		text, sum := "", int64(0)
		for i, p := range parts() {
			if set>>i&1 == 1 {
				text += strconv.Itoa(i+2) + p.letter
				sum += int64(i+2) * p.seconds
			}
		}
		if set == 0 {
			noSpan(t, text)
			continue
		}
		lasts(t, text, sum)
	}
}

func TestP10_3EachOrderOfParts(t *testing.T) {
	// Up to five parts, each of any letter: they are a duration just if the letters rise.
	list := parts()
	var grow func(text string, sum int64, last int, rises bool, left int)
	grow = func(text string, sum int64, last int, rises bool, left int) {
		if rises && text != "" {
			lasts(t, text, sum)
		} else {
			noSpan(t, text)
		}
		for i := range list {
			if left > 0 {
				grow(text+"1"+list[i].letter, sum+list[i].seconds, i, rises && i > last, left-1)
			}
		}
	}
	grow("", 0, -1, true, 5)
}

func TestP10_3Digits(t *testing.T) {
	for text, n := range map[string]int64{
		"1s": 1, "12s": 12, "123s": 123, "1234s": 1234, "12345s": 12345, "123456s": 123456, "604799s": 604799, "10s": 10, "100000s": 100000,
		"10000m": 600000, "10080m": 604800, "168h": 604800, "61m61s": 3721, "25h": 90000, "1d24h": 172800, "1d1440m86400s": 259200,
	} {
		lasts(t, text, n)
	}
	for _, text := range []string{
		"1234567s", "0000001s", "0000000s", "1000000m", "0d", "0h", "0m", "00s", "01d", "02h", "010m", "000001s", "1h0m", "1d0h1m", "0d1h", "1h00m", "1h05m", "1m0s",
		"d", "h", "s", "dh", "1dh", "d1h", "1hm", "1h30", "1d2h3m4", "12", "1ds", "ms", "1ms", "s1", "1h m", "1", "0", "9999999", "1s1", "1s0", "1d1",
	} {
		noSpan(t, text)
	}
}

func TestP10_3Ends(t *testing.T) {
	for _, text := range []string{"7d", "604800s", "6d24h", "6d23h60m", "6d23h59m60s", "168h", "167h60m", "10080m", "10079m60s", "1d518400s", "1h601200s"} {
		lasts(t, text, api.MaxSpan)
	}
	for _, text := range []string{
		"604801s", "7d1s", "6d24h1s", "6d23h60m1s", "6d23h59m61s", "168h1s", "10080m1s", "10081m", "169h", "8d", "999999s", "999999m", "999999h", "999999d",
		"999999d999999h999999m999999s", "1d518401s", "1h601201s", "7d7d",
	} {
		noSpan(t, text)
	}
	lasts(t, "6d23h59m59s", 604799)
	lasts(t, "1s", 1)
	lasts(t, "1m", 60)
	lasts(t, "1h", 3600)
	lasts(t, "1d", 86400)
	lasts(t, "1d1h1m1s", 90061)
}

func TestP10_3ManyBytes(t *testing.T) {
	for _, n := range []int{6, 18, 19, 20, 64, 1000, 1000000} {
		noSpan(t, strings.Repeat("9", n)+"1s")
		noSpan(t, strings.Repeat("0", n)+"1s")
		noSpan(t, "1d"+strings.Repeat("1", n))
		noSpan(t, strings.Repeat("1s", n))
		noSpan(t, strings.Repeat("d", n))
	}
	// What 64 bits hold of the digits would be a small number.
	noSpan(t, "18446744073709551617s")
	noSpan(t, "4294967297s")
	// A count that wraps round to a small one only when it is multiplied.
	noSpan(t, "213503982334602d")
}

func TestP10_3OtherBytes(t *testing.T) {
	for b := range 256 {
		if b >= '0' && b <= '9' || strings.IndexByte("dhms", byte(b)) >= 0 {
			continue
		}
		for _, good := range []string{"1s", "90s", "1h30m", "1d2h3m4s", "604800s"} {
			for _, text := range others(good, byte(b)) {
				noSpan(t, text)
			}
		}
	}
	for _, text := range []string{"1S", "1M", "1H", "1D", "1w", "1y", "1us", "-1s", "+1s", " 1s", "1s ", "1 s", "1.5s", "1.5h", "1,5h", "1h,30m", "1h 30m", "1h\n", "1sd", "1 hour", "٣s", "1é"} {
		noSpan(t, text)
	}
}

func TestP10_4Examples(t *testing.T) {
	spans(t, 90, "1m30s")
	spans(t, 604800, "7d")
	if text, errno := SpanText(0); text != "" || errno != api.ErrRange {
		t.Error(text, errno)
	}
}

func TestP10_4Range(t *testing.T) {
	for _, n := range []int64{0, -1, -2, -60, -90, -604800, -604801, 604801, 604802, 691200, 1 << 20, 1 << 32, 1<<32 + 1, 1<<33 + 90, math.MaxInt64, math.MaxInt64 - 1, math.MinInt64, math.MinInt64 + 1} {
		if text, errno := SpanText(n); text != "" || errno != api.ErrRange {
			t.Errorf("SpanText(%d) = %q, %d, wanted ErrRange", n, text, errno)
		}
	}
}

func TestP10_4PartsThatAreZero(t *testing.T) {
	for n, text := range map[int64]string{
		1: "1s", 59: "59s", 60: "1m", 61: "1m1s", 3599: "59m59s", 3600: "1h", 3601: "1h1s", 3660: "1h1m", 3661: "1h1m1s", 86399: "23h59m59s",
		86400: "1d", 86401: "1d1s", 86460: "1d1m", 86461: "1d1m1s", 90000: "1d1h", 90001: "1d1h1s", 90060: "1d1h1m", 90061: "1d1h1m1s",
		172800: "2d", 36000: "10h", 600: "10m", 10: "10s", 604799: "6d23h59m59s", 604740: "6d23h59m", 601200: "6d23h", 518400: "6d",
	} {
		spans(t, n, text)
	}
}

func TestP10_3And4ThereAndBack(t *testing.T) {
	for n := int64(1); n <= api.MaxSpan; n++ {
		text, errno := SpanText(n)
		if want := spanOf(n); errno != api.OK || text != want {
			t.Fatalf("SpanText(%d) = %q, %d, wanted %q", n, text, errno, want)
		}
		lasts(t, text, n)
		lasts(t, strconv.FormatInt(n, 10)+"s", n)
	}
}

// spanOf counts the parts of n off one by one.
func spanOf(n int64) string {
	text := ""
	for _, p := range parts() {
		count := 0
		for n >= p.seconds {
			n -= p.seconds
			count++
		}
		if count > 0 {
			text += strconv.Itoa(count) + p.letter
		}
	}
	return text
}
