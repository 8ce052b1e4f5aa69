package num

import (
	"go/parser"
	"go/token"
	"math"
	"path/filepath"
	"strconv"
	"strings"
	"testing"

	"capstan/api"
)

// reads holds Read(text) against n.
func reads(t *testing.T, text string, n int64) {
	t.Helper()
	if got, errno := Read(text); got != n || errno != api.OK {
		t.Errorf("Read(%q) = %d, %d, wanted %d", text, got, errno, n)
	}
}

// refuses wants ErrNumber of Read(text), and 0 beside it.
func refuses(t *testing.T, text string) {
	t.Helper()
	if got, errno := Read(text); got != 0 || errno != api.ErrNumber {
		t.Errorf("Read(%.80q) = %d, %d, wanted ErrNumber", text, got, errno)
	}
}

// tells holds Text(n) against text.
func tells(t *testing.T, n int64, text string) {
	t.Helper()
	if got := Text(n); got != text {
		t.Errorf("Text(%d) = %q, wanted %q", n, got, text)
	}
}

func TestP10_1Examples(t *testing.T) {
	reads(t, "1.5", 1500000)
	reads(t, "0", 0)
	reads(t, "0.000001", 1)
	reads(t, "9223372036854.775807", math.MaxInt64)
	for _, text := range []string{"9223372036854.775808", "", "01", "1.", ".5", "1.0000000", "-1", "1e3"} {
		refuses(t, text)
	}
}

func TestP10_1Zeros(t *testing.T) {
	reads(t, "0.0", 0)
	reads(t, "0.000000", 0)
	reads(t, "0.5", 500000)
	reads(t, "10", 10000000)
	reads(t, "100.01", 100010000)
	for _, text := range []string{"00", "000", "00.5", "01.5", "0123", "0000000000001", "0.0000000"} {
		refuses(t, text)
	}
}

func TestP10_1Places(t *testing.T) {
	for text, n := range map[string]int64{
		"7.1": 7100000, "7.12": 7120000, "7.123": 7123000, "7.1234": 7123400, "7.12345": 7123450, "7.123456": 7123456,
		"7.10": 7100000, "7.100000": 7100000, "7.000000": 7000000, "7.000001": 7000001, "7.01": 7010000, "7.999999": 7999999,
	} {
		reads(t, text, n)
	}
	for _, text := range []string{"7.", "7.1234567", "7.0000001", "7.00000000000000000000000000", "0.", ".", ".0", ".123456", "..", "1..5", "1.5.", ".1.5", "1.2.3", "1.5.5"} {
		refuses(t, text)
	}
}

func TestP10_1Ends(t *testing.T) {
	reads(t, "1", 1000000)
	reads(t, "9", 9000000)
	reads(t, "1234567890123.456789", 1234567890123456789)
	reads(t, "9223372036854", 9223372036854000000)
	reads(t, "9223372036854.7", 9223372036854700000)
	reads(t, "9223372036854.77580", 9223372036854775800)
	reads(t, "9223372036854.775806", math.MaxInt64-1)
	reads(t, "9223372036853.999999", 9223372036853999999)
	for _, text := range []string{
		"9223372036854.77581", "9223372036854.8", "9223372036854.999999", "9223372036855", "9223372036855.0", "9999999999999", "9999999999999.999999",
		"10000000000000", "10000000000000.000000", "18446744073709.551616", "18446744073710", "18446744073709551616", "18446744073709551617", "36893488147419.103232",
	} {
		refuses(t, text)
	}
}

func TestP10_1ManyDigits(t *testing.T) {
	for _, n := range []int{14, 19, 20, 21, 64, 100, 1000, 1000000} {
		refuses(t, "1"+strings.Repeat("0", n-1))
		refuses(t, strings.Repeat("9", n))
		refuses(t, strings.Repeat("0", n))
		refuses(t, "1."+strings.Repeat("0", n))
		refuses(t, strings.Repeat("9", n)+".5")
		refuses(t, strings.Repeat("1.", n))
	}
	// What 64 bits hold of these digits is a small number.
	for n := range 100 {
		refuses(t, "18446744073709551616"+strconv.Itoa(n))
	}
}

// others are good texts with another byte in the place of each, ahead of each and behind.
func others(text string, b byte) []string {
	var list []string
	for i := range len(text) {
		list = append(list, text[:i]+string([]byte{b})+text[i+1:])
	}
	for i := range len(text) + 1 {
		list = append(list, text[:i]+string([]byte{b})+text[i:])
	}
	return list
}

func TestP10_1OtherBytes(t *testing.T) {
	for b := range 256 {
		if b == '.' || b >= '0' && b <= '9' {
			continue
		}
		for _, good := range []string{"0", "1", "12", "0.5", "12.5", "12.000001", "9223372036854.775807"} {
			for _, text := range others(good, byte(b)) {
				refuses(t, text)
			}
		}
	}
	for _, text := range []string{"+1", "-0", "- 1", "--1", "1-", "1.-5", "1.+5", " 1", "1 ", "1. 5", "1\n", "\t1", "1_000", "0x1", "1,5", "1.5e1", "1E3", "inf", "NaN", "one", "1s", "١", "１", "½", "1\x00"} {
		refuses(t, text)
	}
}

func TestP10_2Examples(t *testing.T) {
	tells(t, 1500000, "1.5")
	tells(t, -1, "-0.000001")
	tells(t, math.MinInt64, "-9223372036854.775808")
}

func TestP10_2Ends(t *testing.T) {
	tells(t, 0, "0")
	tells(t, 1, "0.000001")
	tells(t, math.MaxInt64, "9223372036854.775807")
	tells(t, math.MaxInt64-1, "9223372036854.775806")
	tells(t, -math.MaxInt64, "-9223372036854.775807")
	tells(t, math.MinInt64+8, "-9223372036854.7758")
	tells(t, -1000000, "-1")
	tells(t, -500000, "-0.5")
	tells(t, -10500000, "-10.5")
	tells(t, 1000001, "1.000001")
	tells(t, 999999, "0.999999")
	tells(t, 120, "0.00012")
	tells(t, 100200, "0.1002")
	tells(t, 9223372036854000000, "9223372036854")
}

func TestP10_2PowersOfTen(t *testing.T) {
	power := int64(1)
	for i := range 19 {
		text := "1" + strings.Repeat("0", max(0, i-6))
		less, more := strings.Repeat("9", max(0, i-6)), text
		if i < 6 {
			text = "0." + strings.Repeat("0", 5-i) + "1"
			less = "0." + strings.Repeat("0", 6-i) + strings.Repeat("9", i)
		} else {
			less = strings.TrimPrefix(less+".999999", ".")
			more += ".000001"
		}
		if i == 6 {
			less = "0.999999"
		}
		tells(t, power, text)
		tells(t, -power, "-"+text)
		if i > 0 {
			tells(t, power-1, less)
			tells(t, 1-power, "-"+less)
		}
		if i >= 6 {
			tells(t, power+1, more)
			tells(t, -power-1, "-"+more)
		}
		power *= 10
	}
	tells(t, 2, "0.000002")
	tells(t, 11, "0.000011")
	tells(t, 101, "0.000101")
	tells(t, 1001, "0.001001")
	tells(t, 10001, "0.010001")
	tells(t, 100001, "0.100001")
}

func TestP10_1And2ThereAndBack(t *testing.T) {
	for n := int64(0); n < 2100000; n++ {
		back(t, n)
	}
	for shift := range 63 {
		for near := int64(-300); near <= 300; near++ {
			back(t, max(0, int64(1)<<shift+near))
			back(t, math.MaxInt64>>shift-max(0, near))
		}
	}
}

// back holds Read of the Text of n, which isn't below 0, against n, and the Text of -n against that of n.
func back(t *testing.T, n int64) {
	t.Helper()
	if n < 0 {
		return // a neighbour that has wrapped round
	}
	text := Text(n)
	reads(t, text, n)
	if n != 0 {
		tells(t, -n, "-"+text)
		refuses(t, "-"+text)
	}
	if strings.Contains(text, ".") && strings.HasSuffix(text, "0") {
		t.Fatalf("Text(%d) = %q, which isn't the shortest", n, text)
	}
	if t.Failed() {
		t.FailNow()
	}
}

// A layer calls only those ahead of it that its chapter names.
func TestCallsOnlyApi(t *testing.T) {
	files, err := filepath.Glob("*.go")
	if err != nil || len(files) == 0 {
		t.Fatal(files, err)
	}
	for _, name := range files {
		if strings.HasSuffix(name, "_test.go") {
			continue
		}
		file, err := parser.ParseFile(token.NewFileSet(), name, nil, parser.ImportsOnly)
		if err != nil {
			t.Fatal(err)
		}
		for _, spec := range file.Imports {
			path, _ := strconv.Unquote(spec.Path.Value)
			if strings.HasPrefix(path, "capstan/") && path != "capstan/api" {
				t.Errorf("%s imports %s", name, path)
			}
		}
	}
}
