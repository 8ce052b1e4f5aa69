package cron

import (
	"math/rand"
	"regexp"
	"strconv"
	"strings"
	"testing"

	"capstan/api"
)

// set makes the set of the numbers.
func set(numbers ...int) uint64 {
	s := uint64(0)
	for _, n := range numbers {
		s |= 1 << n
	}
	return s
}

// The fields' sets of all numbers, written out.
const (
	allMinutes = 1<<60 - 1
	allHours   = 1<<24 - 1
	allDays    = 1<<32 - 2
	allMonths  = 1<<13 - 2
	allWeek    = 1<<7 - 1
)

// read reads a text that is a schedule's one.
func read(t *testing.T, text string) api.Cron {
	t.Helper()
	c, at, e := Read(text)
	if at != 0 || e != api.OK {
		t.Fatalf("Read(%q) = %v, %d, %d", text, c, at, e)
	}
	return c
}

func TestP4_1_ReadExamples(t *testing.T) {
	odd := set(1, 3, 5, 7, 9, 11, 13, 15, 17, 19, 21, 23, 25, 27, 29, 31)
	even := odd>>1 | set(32, 34, 36, 38, 40, 42, 44, 46, 48, 50, 52, 54, 56, 58)
	for _, x := range []struct {
		text string
		want api.Cron
	}{
		{"* * * * *", api.Cron{Minute: allMinutes, Hour: allHours, Day: allDays, Month: allMonths, Week: allWeek}},
		{"0 22 * * 1-5", api.Cron{Minute: 1, Hour: set(22), Day: allDays, Month: allMonths, Week: set(1, 2, 3, 4, 5)}},
		{"*/15 0 1,15 2 *", api.Cron{Minute: set(0, 15, 30, 45), Hour: 1, Day: set(1, 15), Month: set(2), Week: allWeek}},
		{"*/2 * */2 */5 *", api.Cron{Minute: even, Hour: allHours, Day: odd, Month: set(1, 6, 11), Week: allWeek}},
		{"10-20/5 * * * *", api.Cron{Minute: set(10, 15, 20), Hour: allHours, Day: allDays, Month: allMonths, Week: allWeek}},
		{"0 0 1 1 0", api.Cron{Minute: 1, Hour: 1, Day: 2, Month: 2, Week: 1}},
		{"59 23 31 12 6", api.Cron{Minute: 1 << 59, Hour: 1 << 23, Day: 1 << 31, Month: 1 << 12, Week: 1 << 6}},
		{"0-59 0-23 1-31 1-12 0-6", api.Cron{Minute: allMinutes, Hour: allHours, Day: allDays, Month: allMonths, Week: allWeek}},
	} {
		if c, at, e := Read(x.text); c != x.want || at != 0 || e != api.OK {
			t.Errorf("Read(%q) = %v, %d, %d, wanted %v", x.text, c, at, e, x.want)
		}
	}
}

func TestP4_1_ReadItems(t *testing.T) {
	for _, x := range []struct {
		text string
		want uint64
	}{
		{"7", set(7)},
		{"7,7,7", set(7)},
		{"7,5", set(5, 7)},
		{"5-5", set(5)},
		{"0-0", set(0)},
		{"59-59", set(59)},
		{"5-6", set(5, 6)},
		{"9-10", set(9, 10)},
		{"5-8/1", set(5, 6, 7, 8)},
		{"5-8/2", set(5, 7)},
		{"5-9/2", set(5, 7, 9)},
		{"5-8/3", set(5, 8)},
		{"5-8/4", set(5)},
		{"5-8/99", set(5)},
		{"5-5/1", set(5)},
		{"5-5/99", set(5)},
		{"*/1", allMinutes},
		{"*/30", set(0, 30)},
		{"*/59", set(0, 59)},
		{"*/60", set(0)},
		{"*/99", set(0)},
		{"*,3", allMinutes},
		{"3,*", allMinutes},
		{"*,*", allMinutes},
		{"*/30,1-3,59", set(0, 1, 2, 3, 30, 59)},
		{"1-5,3-8/5,*/40", set(0, 1, 2, 3, 4, 5, 8, 40)},
		{"0-59/58", set(0, 58)},
	} {
		if c := read(t, x.text+" * * * *"); c.Minute != x.want {
			t.Errorf("%q: %b, wanted %b", x.text, c.Minute, x.want)
		}
	}
	if c := read(t, "* */23 */30 */11 */6"); c.Hour != set(0, 23) || c.Day != set(1, 31) || c.Month != set(1, 12) || c.Week != set(0, 6) {
		t.Error("steps count from a field's least number on", c)
	}
	if c := read(t, "* */24 */31 */12 */7"); c.Hour != set(0) || c.Day != set(1) || c.Month != set(1) || c.Week != set(0) {
		t.Error("steps beyond a field's length leave its least number", c)
	}
}

func TestP4_1_ReadFaults(t *testing.T) {
	for _, x := range []struct {
		text string
		at   int
	}{
		// the chapter's
		{"", 0}, {"60 * * * *", 0}, {"* * 0 * *", 4}, {"* * * * 7", 8}, {"5-4 * * * *", 2},
		{"*/0 * * * *", 2}, {"01 * * * *", 0}, {"* * * *", 7}, {"* * * * * ", 9},
		{"*  * * * *", 2}, {"1-2-3 * * * *", 3},
		// texts that end too early
		{"*", 1}, {"* ", 2}, {"* *", 3}, {"* * * * ", 8}, {"5", 1}, {"5,", 2}, {"5-", 2}, {"5-6", 3},
		{"5-6/", 4}, {"5-6/2", 5}, {"*/", 2}, {"*/2", 3}, {"*,", 2},
		{"* * * * 5,", 10}, {"* * * * 5-", 10}, {"* * * * 5-6/", 12}, {"* * * * */", 10},
		// blanks too many and too few
		{" * * * * *", 0}, {" ", 0}, {"* *  * * *", 4}, {"* * * *  *", 8}, {"* * * * *  ", 9},
		{"** * * *", 1}, {"* * * **", 7}, {"*\t* * * *", 1}, {"* * * * *\n", 9}, {"\t* * * * *", 0},
		{"* * * * * *", 9}, {"5 , 6 * * * *", 2}, {"5, 6 * * * *", 2}, {"5 -6 * * * *", 2}, {"5- 6 * * * *", 2},
		// numbers that aren't of their field
		{"* 24 * * *", 2}, {"* * 32 * *", 4}, {"* * * 0 *", 6}, {"* * * 13 *", 6}, {"* * * * 6,7", 10},
		{"0-60 * * * *", 2}, {"* 0-24 * * *", 4}, {"* * 0-5 * *", 4}, {"* * 1-32 * *", 6},
		{"* * * 0-1 *", 6}, {"* * * 1-13 *", 8}, {"* * * * 0-7", 10}, {"1,60 * * * *", 2},
		{"60-60 * * * *", 0}, {"60-1 * * * *", 0}, {"99 * * * *", 0},
		// numbers that are none
		{"00 * * * *", 0}, {"09 * * * *", 0}, {"100 * * * *", 0}, {"001 * * * *", 0}, {"010 * * * *", 0},
		{"00000000000000000000000001 * * * *", 0}, {"18446744073709551617 * * * *", 0},
		{"0-00 * * * *", 2}, {"0-05 * * * *", 2}, {"0-100 * * * *", 2}, {"0-0100 * * * *", 2}, {"05-6 * * * *", 0},
		{"5,05 * * * *", 2}, {"01", 0}, {"100", 0}, {"60", 0}, {"5-4", 2}, {"5-04", 2},
		// steps that are none
		{"*/00 * * * *", 2}, {"*/01 * * * *", 2}, {"*/100 * * * *", 2}, {"*/010 * * * *", 2},
		{"5-6/0 * * * *", 4}, {"5-6/01 * * * *", 4}, {"5-6/100 * * * *", 4}, {"*/999999999999999999999 * * * *", 2},
		{"*/0", 2}, {"*/100", 2}, {"*/-1 * * * *", 2}, {"*/* * * * *", 2},
		// ranges below their first number
		{"59-58 * * * *", 3}, {"10-9 * * * *", 3}, {"1-0 * * * *", 2}, {"10-9/2 * * * *", 3}, {"* * * * 6-5", 10},
		// bytes that nothing goes on with
		{"1/2 * * * *", 1}, {"5-6- * * * *", 3}, {"*-5 * * * *", 1}, {"*5 * * * *", 1}, {"5* * * * *", 1},
		{"-5 * * * *", 0}, {"+5 * * * *", 0}, {",5 * * * *", 0}, {"5,,6 * * * *", 2}, {"/5 * * * *", 0},
		{"*/5/5 * * * *", 3}, {"5-6/2/2 * * * *", 5}, {"5-6/2-3 * * * *", 5}, {"*/5-6 * * * *", 3},
		{"5-* * * * *", 2}, {"5--6 * * * *", 2}, {"5-,6 * * * *", 2}, {"*/,6 * * * *", 2},
		{"? * * * *", 0}, {"@daily", 0}, {"* * * jan *", 6}, {"* * * * MON", 8}, {"5: * * * *", 1},
		{"\x00* * * * *", 0}, {"* * * * *\x00", 9}, {"5\x00 * * * *", 1}, {"\xff", 0}, {"5\xc3 * * * *", 1},
		{"\u0665 * * * *", 0}, {"5\u0665 * * * *", 1}, {"*\u00a0* * * *", 1}, {"\uff0a * * * *", 0},
	} {
		if c, at, e := Read(x.text); c != (api.Cron{}) || at != x.at || e != api.ErrCron {
			t.Errorf("Read(%q) = %v, %d, %d, wanted %d", x.text, c, at, e, x.at)
		}
	}
}

func TestP4_1_ReadEachFieldsEnds(t *testing.T) {
	ends := [5][2]int{{0, 59}, {0, 23}, {1, 31}, {1, 12}, {0, 6}}
	for i, end := range ends {
		for n := 0; n <= 130; n++ {
			texts := []string{"*", "*", "*", "*", "*"}
			texts[i] = strconv.Itoa(n)
			c, at, e := Read(strings.Join(texts, " "))
			if n < end[0] || n > end[1] {
				if c != (api.Cron{}) || at != 2*i || e != api.ErrCron {
					t.Errorf("field %d, number %d: %v, %d, %d", i, n, c, at, e)
				}
				continue
			}
			if got := [5]uint64{c.Minute, c.Hour, c.Day, c.Month, c.Week}[i]; got != 1<<n || at != 0 || e != api.OK {
				t.Errorf("field %d, number %d: %b, %d, %d", i, n, got, at, e)
			}
		}
	}
}

func TestP4_1_ReadLong(t *testing.T) {
	ends := " * * * *"
	fits := strings.Repeat("0,", 123) + "10" + ends
	if c, at, e := Read(fits); len(fits) != 256 || c.Minute != set(0, 10) || at != 0 || e != api.OK {
		t.Error(len(fits), c, at, e)
	}
	for _, text := range []string{
		strings.Repeat("0,", 124) + "0" + ends,
		strings.Repeat(" ", 257),
		strings.Repeat("0", 257),
		strings.Repeat("x", 1<<20),
	} {
		if c, at, e := Read(text); len(text) <= 256 || c != (api.Cron{}) || at != 0 || e != api.ErrLong {
			t.Error(len(text), c, at, e)
		}
	}
	for _, x := range []struct {
		text string
		at   int
	}{
		{strings.Repeat("0,", 128), 256},
		{strings.Repeat("0,", 127) + "0-", 256},
		{strings.Repeat("0,", 127) + "*/", 256},
		{strings.Repeat("0,", 127) + "00", 254},
		{strings.Repeat("0", 256), 0},
		{strings.Repeat("0,", 123) + "0" + ends + " ", 255},
	} {
		if c, at, e := Read(x.text); len(x.text) != 256 || c != (api.Cron{}) || at != x.at || e != api.ErrCron {
			t.Error(len(x.text), c, at, e, x.at)
		}
	}
}

var itemForm = regexp.MustCompile(`^(?:(\*)|(0|[1-9][0-9]?))(?:-(0|[1-9][0-9]?))?(?:/([1-9][0-9]?))?$`)

// slowItem answers an item's numbers by looking at each number of the field.
func slowItem(text string, least, most int) (uint64, bool) {
	m := itemForm.FindStringSubmatch(text)
	if m == nil || m[1] != "" && m[3] != "" || m[2] != "" && m[3] == "" && m[4] != "" {
		return 0, false
	}
	a, b, n := least, most, 1
	if m[2] != "" {
		a, _ = strconv.Atoi(m[2])
		b = a
	}
	if m[3] != "" {
		b, _ = strconv.Atoi(m[3])
	}
	if m[4] != "" {
		n, _ = strconv.Atoi(m[4])
	}
	if a < least || b > most || a > b {
		return 0, false
	}
	s := uint64(0)
	for k := least; k <= most; k++ {
		if a <= k && k <= b && (k-a)%n == 0 {
			s |= 1 << k
		}
	}
	return s, true
}

// slowRead answers the schedule of a text, or false, by cutting it to pieces.
func slowRead(text string) (api.Cron, bool) {
	ends := [5][2]int{{0, 59}, {0, 23}, {1, 31}, {1, 12}, {0, 6}}
	pieces := strings.Split(text, " ")
	if len(pieces) != 5 {
		return api.Cron{}, false
	}
	var c api.Cron
	for i, into := range []*uint64{&c.Minute, &c.Hour, &c.Day, &c.Month, &c.Week} {
		for item := range strings.SplitSeq(pieces[i], ",") {
			s, ok := slowItem(item, ends[i][0], ends[i][1])
			if !ok {
				return api.Cron{}, false
			}
			*into |= s
		}
	}
	return c, true
}

var pieceForm = regexp.MustCompile(`[0-9]+|(?s:.)`)

var endsInDigit = regexp.MustCompile(`[0-9]$`)

// goesOn answers whether some schedule's text begins with the pieces that text is made of: it
// is tried whether one of some ends makes it one. A number is one piece, so no digit is added to it.
func goesOn(text string) bool {
	nexts := []string{"", "*", "59", "23", "31", "12", "6", "1"}
	if endsInDigit.MatchString(text) {
		nexts = nexts[:1]
	}
	for _, next := range nexts {
		for fields := range 5 {
			if _, ok := slowRead(text + next + strings.Repeat(" *", fields)); ok {
				return true
			}
		}
	}
	return false
}

// slowPlace answers the place at which a text that is no schedule's one fails.
func slowPlace(text string) int {
	for _, piece := range pieceForm.FindAllStringIndex(text, -1) {
		if !goesOn(text[:piece[1]]) {
			return piece[0]
		}
	}
	return len(text)
}

func slowAgrees(t *testing.T, text string) (taken bool) {
	t.Helper()
	want, ok := slowRead(text)
	at, err := 0, api.OK
	if !ok {
		at, err = slowPlace(text), api.ErrCron
	}
	if c, n, e := Read(text); c != want || n != at || e != err {
		t.Fatalf("Read(%q) = %v, %d, %d, wanted %v, %d, %d", text, c, n, e, want, at, err)
	}
	return ok
}

// randomText makes a text that is nearly a schedule's one.
func randomText(r *rand.Rand) string {
	most := [5]int{60, 24, 32, 13, 7}
	var b strings.Builder
	for i := range 5 {
		if i > 0 {
			b.WriteByte(' ')
		}
		for {
			switch a := r.Intn(most[i]); r.Intn(5) {
			case 0:
				b.WriteString("*")
			case 1:
				b.WriteString("*/" + strconv.Itoa(r.Intn(101)))
			case 2:
				b.WriteString(strconv.Itoa(a))
			case 3:
				b.WriteString(strconv.Itoa(a) + "-" + strconv.Itoa(a+r.Intn(most[i]-a)))
			default:
				b.WriteString(strconv.Itoa(a) + "-" + strconv.Itoa(a+r.Intn(most[i]-a)) + "/" + strconv.Itoa(1+r.Intn(20)))
			}
			if r.Intn(3) > 0 {
				break
			}
			b.WriteByte(',')
		}
	}
	return b.String()
}

func TestP4_1_ReadAgreesWithSlowReading(t *testing.T) {
	r := rand.New(rand.NewSource(4))
	taken, refused := 0, 0
	for range 4000 {
		text := randomText(r)
		for range r.Intn(3) {
			at := r.Intn(len(text) + 1)
			end := min(len(text), at+r.Intn(2))
			text = text[:at] + string("0123456789 ,-/*x"[r.Intn(16)])[:r.Intn(2)] + text[end:]
		}
		if slowAgrees(t, text) {
			taken++
		} else {
			refused++
		}
	}
	if taken < 500 || refused < 500 {
		t.Error("the texts are one-sided", taken, refused)
	}
}

// Each text of up to four of these bytes: alone, as a first field, and as a last one.
func TestP4_1_ReadAgreesOnShortFields(t *testing.T) {
	var grow func(text string, left int)
	grow = func(text string, left int) {
		slowAgrees(t, text)
		slowAgrees(t, text+" * * * *")
		slowAgrees(t, "* * * * "+text)
		if left == 0 {
			return
		}
		for _, b := range "015*,-/ " {
			grow(text+string(b), left-1)
		}
	}
	grow("", 4)
}
