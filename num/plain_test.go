package num

import (
	"math"
	"math/big"
	"math/rand"
	"regexp"
	"strings"
	"testing"

	"capstan/api"
)

var (
	numberForm = regexp.MustCompile(`\A(?:0|[1-9][0-9]*)(?:\.[0-9]{1,6})?\z`)
	spanForm   = regexp.MustCompile(`\A(?:([1-9][0-9]{0,5})d)?(?:([1-9][0-9]{0,5})h)?(?:([1-9][0-9]{0,5})m)?(?:([1-9][0-9]{0,5})s)?\z`)
)

// numberOf is what Read has to say of the text, by the chapter's form and numbers without bounds.
func numberOf(text string) (int64, api.Errno) {
	if !numberForm.MatchString(text) {
		return 0, api.ErrNumber
	}
	value, ok := new(big.Rat).SetString(text)
	if !ok {
		panic(text)
	}
	value.Mul(value, big.NewRat(api.One, 1))
	if !value.IsInt() || !value.Num().IsInt64() {
		return 0, api.ErrNumber
	}
	return value.Num().Int64(), api.OK
}

// lengthOf is what ReadSpan has to say of the text.
func lengthOf(text string) (int64, api.Errno) {
	found := spanForm.FindStringSubmatch(text)
	if found == nil {
		return 0, api.ErrNumber
	}
	sum := new(big.Int)
	for i, p := range parts() {
		if count, ok := new(big.Int).SetString(found[i+1], 10); ok {
			sum.Add(sum, count.Mul(count, big.NewInt(p.seconds)))
		}
	}
	if sum.Sign() == 0 || sum.Cmp(big.NewInt(api.MaxSpan)) > 0 {
		return 0, api.ErrNumber
	}
	return sum.Int64(), api.OK
}

// textOf is what Text has to say of n.
func textOf(n int64) string {
	text := new(big.Rat).SetFrac(big.NewInt(n), big.NewInt(api.One)).FloatString(6)
	return strings.TrimSuffix(strings.TrimRight(text, "0"), ".")
}

// agrees holds both readings of the text against the plain ones.
func agrees(t *testing.T, text string) {
	t.Helper()
	n, errno := numberOf(text)
	if got, e := Read(text); got != n || e != errno {
		t.Fatalf("Read(%q) = %d, %d, wanted %d, %d", text, got, e, n, errno)
	}
	n, errno = lengthOf(text)
	if got, e := ReadSpan(text); got != n || e != errno {
		t.Fatalf("ReadSpan(%q) = %d, %d, wanted %d, %d", text, got, e, n, errno)
	}
}

func TestP10_1And3StringsOfAllBytes(t *testing.T) {
	agrees(t, "")
	for a := range 256 {
		agrees(t, string([]byte{byte(a)}))
		for b := range 256 {
			agrees(t, string([]byte{byte(a), byte(b)}))
		}
	}
	good := []string{"0", "7", "10", "0.5", "10.25", "3.141592", "9223372036854.775807", "1s", "12m", "1h30m", "1d2h3m4s", "604800s"}
	for b := range 256 {
		for _, text := range good {
			for _, other := range others(text, byte(b)) {
				agrees(t, other)
			}
		}
	}
}

func TestP10_1And3ShortStrings(t *testing.T) {
	signs := []byte("0129.-dhms ")
	list := [][]byte{{}}
	for range 6 {
		var longer [][]byte
		for _, text := range list {
			for _, b := range signs {
				longer = append(longer, append(append([]byte(nil), text...), b))
			}
		}
		// Of the longest ones each thirteenth will do.
		step := 1
		if len(longer) > 1000000 {
			step = 13
		}
		for i := 0; i < len(longer); i += step {
			agrees(t, string(longer[i]))
		}
		list = longer
	}
}

func TestP10_1RandomNumbers(t *testing.T) {
	random := rand.New(rand.NewSource(10))
	for range 100000 {
		text := digitsOf(random, random.Intn(16))
		if random.Intn(3) > 0 {
			text += "." + digitsOf(random, random.Intn(9))
		}
		agrees(t, text)
	}
	// Around 2^63 - 1 micro-units, with each number of places.
	for range 20000 {
		text := []byte("9223372036854.775807")
		text[random.Intn(len(text))] = "0123456789."[random.Intn(11)]
		agrees(t, string(text[:len(text)-random.Intn(8)]))
	}
}

func TestP10_3RandomSpans(t *testing.T) {
	random := rand.New(rand.NewSource(103))
	for range 100000 {
		text := ""
		for _, letter := range "dhms" {
			if random.Intn(2) == 0 {
				text += digitsOf(random, random.Intn(8)) + string(letter)
			}
		}
		if random.Intn(8) == 0 {
			text += string("dhms09"[random.Intn(6)])
		}
		agrees(t, text)
	}
}

func digitsOf(random *rand.Rand, count int) string {
	text := ""
	for range count {
		text += string("01234567899"[random.Intn(11)])
	}
	if random.Intn(4) > 0 {
		text = strings.TrimLeft(text, "0")
	}
	return text
}

func TestP10_2RandomNumbers(t *testing.T) {
	random := rand.New(rand.NewSource(102))
	for range 200000 {
		n := int64(random.Uint64()) >> random.Intn(64)
		if random.Intn(2) == 0 { // with zeros at its end
			for range random.Intn(12) {
				n = n / 10 * 10
			}
			if random.Intn(2) == 0 {
				n = n / 100000 * 100000
			}
		}
		text := textOf(n)
		tells(t, n, text)
		if n >= 0 {
			reads(t, text, n)
			zeros(t, text, n)
		}
		if t.Failed() {
			t.FailNow()
		}
	}
}

// zeros wants that zeros behind the text's last place, up to six places, leave its worth as it is.
func zeros(t *testing.T, text string, n int64) {
	t.Helper()
	at := strings.IndexByte(text, '.')
	if at < 0 {
		text, at = text+".", len(text)
	}
	for len(text)-at-1 < 6 {
		text += "0"
		reads(t, text, n)
	}
	refuses(t, text+"0")
}

func TestP10_1To4KeepNothing(t *testing.T) {
	// What was asked ahead doesn't matter.
	for range 3 {
		reads(t, "1.5", 1500000)
		refuses(t, "1.5.")
		lasts(t, "1h", 3600)
		noSpan(t, "1h1")
		spans(t, 90, "1m30s")
		tells(t, math.MinInt64, "-9223372036854.775808")
	}
}

func TestP10_1To4TakeNoMemoryToSpeakOf(t *testing.T) {
	long := strings.Repeat("9", 1<<20)
	for name, call := range map[string]func(){
		"Read":            func() { Read("9223372036854.775807") },
		"Read, long":      func() { Read(long) },
		"Read, places":    func() { Read("1." + "000000") },
		"ReadSpan":        func() { ReadSpan("6d23h59m59s") },
		"ReadSpan, long":  func() { ReadSpan(long) },
		"SpanText, wrong": func() { SpanText(0) },
	} {
		if n := testing.AllocsPerRun(100, call); n != 0 {
			t.Errorf("%s takes %f pieces of memory", name, n)
		}
	}
}
