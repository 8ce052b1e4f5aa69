package cron

import (
	"math/rand"
	"strings"
	"testing"

	"capstan/api"
)

func TestP4_3_TextTellsRuns(t *testing.T) {
	for _, x := range []struct{ text, want string }{
		{"*/15 0 1,15 2 *", "0,15,30,45 0 1,15 2 *"},
		{"0 22 * * 1-5", "0 22 * * 1-5"},
		{"* * * * *", "* * * * *"},
		{"0-59 0-23 1-31 1-12 0-6", "* * * * *"},
		{"0-58 0-22 1-30 1-11 0-5", "0-58 0-22 1-30 1-11 0-5"},
		{"1-59 1-23 2-31 2-12 1-6", "1-59 1-23 2-31 2-12 1-6"},
		{"0 0 1 1 0", "0 0 1 1 0"},
		{"59 23 31 12 6", "59 23 31 12 6"},
		{"0,1 22,23 1,2 11,12 5,6", "0,1 22,23 1,2 11,12 5,6"},
		{"0-1 22-23 1-2 11-12 5-6", "0,1 22,23 1,2 11,12 5,6"},
		{"0,1,2 21,22,23 1,2,3 10,11,12 4,5,6", "0-2 21-23 1-3 10-12 4-6"},
		{"2,1,0 * * * *", "0-2 * * * *"},
		{"57-59,0-2,30,32,33 * * * *", "0-2,30,32,33,57-59 * * * *"},
		{"9,10,11 9,10 9,10 9,10 0,2,4,6", "9-11 9,10 9,10 9,10 0,2,4,6"},
		{"0-3,5-6,8,10-12 * * * *", "0-3,5,6,8,10-12 * * * *"},
		{"0,59 0,23 1,31 1,12 0,6", "0,59 0,23 1,31 1,12 0,6"},
	} {
		c := read(t, x.text)
		if got, e := Text(c); got != x.want || e != api.OK {
			t.Errorf("Text of %q = %q, %d, wanted %q", x.text, got, e, x.want)
		}
	}
}

func TestP4_3_TextOfWhatIsNotFormed(t *testing.T) {
	for _, c := range unformed() {
		if got, e := Text(c); got != "" || e != api.ErrForm {
			t.Errorf("Text(%v) = %q, %d", c, got, e)
		}
	}
}

func TestP4_3_ReadOfTextIsTheSchedule(t *testing.T) {
	r := rand.New(rand.NewSource(43))
	for range 3000 {
		c := randomFormed(r)
		text, e := Text(c)
		if e != api.OK {
			t.Fatal(c, e)
		}
		if back := read(t, text); back != c {
			t.Fatal(c, text, back)
		}
		shortest(t, text)
	}
}

// The longest text of all is one that Read takes: pairs with one number between each two.
func TestP4_3_LongestTextIsRead(t *testing.T) {
	pairs := uint64(0)
	for n := 0; n < 63; n += 3 {
		pairs |= 3 << n
	}
	c := api.Cron{Minute: pairs & allMinutes, Hour: pairs & allHours, Day: pairs << 1 & allDays, Month: pairs << 1 & allMonths, Week: pairs & allWeek}
	text, e := Text(c)
	if back := read(t, text); e != api.OK || back != c || len(text) != 238 {
		t.Error(text, len(text), e)
	}
}

// shortest looks at a text's form: no run of three is written as numbers, and none of two as a range.
func shortest(t *testing.T, text string) {
	t.Helper()
	for _, f := range strings.Split(text, " ") {
		last, alone := -9, 0
		for _, item := range strings.Split(f, ",") {
			if item == "*" {
				continue
			}
			a, b, wide := ends(item)
			if wide && b-a < 2 || a <= last || wide && a == last+1 {
				t.Fatal(text, item)
			}
			if a == last+1 {
				alone++
			} else {
				alone = 1
			}
			if wide {
				alone = 9
			}
			if alone > 2 && !wide {
				t.Fatal(text, item)
			}
			last = b
		}
	}
}

func ends(item string) (a, b int, wide bool) {
	number := func(s string) int {
		n := 0
		for _, d := range s {
			n = n*10 + int(d-'0')
		}
		return n
	}
	first, last, wide := strings.Cut(item, "-")
	if !wide {
		last = first
	}
	return number(first), number(last), wide
}
