package scan

import (
	"go/parser"
	"go/token"
	"math"
	"path/filepath"
	"slices"
	"strconv"
	"strings"
	"testing"

	"capstan/api"
)

// sequence answers the bytes that UTF-8 has for a number of that many bytes, whether it is a rune or not,
// and whether the form is the shortest or not.
func sequence(n, width int) string {
	if width == 1 {
		return string([]byte{byte(n)})
	}
	list := make([]byte, width)
	for i := width - 1; i > 0; i-- {
		list[i] = byte(0x80 | n&0x3f)
		n >>= 6
	}
	list[0] = byte(n) | []byte{2: 0xc0, 3: 0xe0, 4: 0xf0}[width]
	return string(list)
}

// width answers how many bytes the shortest form of a rune has.
func width(r int) int {
	switch {
	case r < 0x80:
		return 1
	case r < 0x800:
		return 2
	case r < 0x10000:
		return 3
	}
	return 4
}

// text answers the sequences of these runes.
func text(runes ...int) string {
	var s strings.Builder
	for _, r := range runes {
		s.WriteString(sequence(r, width(r)))
	}
	return s.String()
}

// counts asks that s is a text of these runes, of Check and of Runes.
func counts(t *testing.T, s string, want ...int) {
	t.Helper()
	if n, at, errno := Check(s); n != len(want) || at != 0 || errno != api.OK {
		t.Errorf("Check(%q) = %d, %d, %d, wanted %d runes", s, n, at, errno, len(want))
	}
	list, at, errno := Runes(s)
	same := slices.EqualFunc(list, want, func(a rune, b int) bool { return int(a) == b })
	if !same || at != 0 || errno != api.OK {
		t.Errorf("Runes(%q) = %x, %d, %d, wanted %x", s, list, at, errno, want)
	}
}

// fails asks that s has that fault first, of Check and of Runes.
func fails(t *testing.T, s string, place int, want api.Errno) {
	t.Helper()
	if n, at, errno := Check(s); n != 0 || at != place || errno != want {
		t.Errorf("Check(%q) = %d, %d, %d, wanted %d at %d", s, n, at, errno, want, place)
	}
	if list, at, errno := Runes(s); len(list) != 0 || at != place || errno != want {
		t.Errorf("Runes(%q) = %x, %d, %d, wanted %d at %d", s, list, at, errno, want, place)
	}
}

// around asks the same of s and of s behind and ahead of texts.
func around(s string, ask func(s string, behind int)) {
	for _, head := range []string{"", "a", "\n", "é", "日", "\U0001f600", "aé日\U0001f600\n"} {
		for _, tail := range []string{"", "a", "é", "日", "\U0001f600"} {
			ask(head+s+tail, len(head))
		}
	}
}

func TestP9_1Examples(t *testing.T) {
	counts(t, "aé\n", 'a', 0xe9, '\n')
	fails(t, "a\xff", 1, api.ErrUtf8)
	fails(t, "\x00", 0, api.ErrRune)
	counts(t, "\xef\xbf\xbd", 0xfffd)
	fails(t, "\xed\xa0\x80", 0, api.ErrUtf8)
	fails(t, "\xc3", 0, api.ErrUtf8)
}

func TestP9_1Empty(t *testing.T) {
	counts(t, "")
}

func TestP9_1Ordinary(t *testing.T) {
	counts(t, "policy", 'p', 'o', 'l', 'i', 'c', 'y')
	counts(t, "été \t\r\n1", 0xe9, 't', 0xe9, ' ', '\t', '\r', '\n', '1')
	counts(t, "a日\U0001f600é", 'a', 0x65e5, 0x1f600, 0xe9)
}

func TestP9_1EndsOfEachWidth(t *testing.T) {
	for _, x := range []struct{ bytes, rune int }{
		{1, 0x20}, {1, 0x7e}, {2, 0xa0}, {2, 0x7ff}, {3, 0x800}, {3, 0xd7ff}, {3, 0xe000}, {3, 0xffff}, {4, 0x10000}, {4, 0x10ffff},
	} {
		s := sequence(x.rune, x.bytes)
		counts(t, s, x.rune)
		counts(t, "a"+s+"é", 'a', x.rune, 0xe9)
	}
	// The least of one byte and of two are sequences, but of runes that are not let in.
	fails(t, sequence(0, 1), 0, api.ErrRune)
	fails(t, sequence(0x7f, 1), 0, api.ErrRune)
	fails(t, sequence(0x80, 2), 0, api.ErrRune)
}

func TestP9_1NotTheShortest(t *testing.T) {
	for _, x := range []struct{ rune, bytes int }{
		{0, 2}, {'\t', 2}, {' ', 2}, {'a', 2}, {0x7f, 2},
		{0, 3}, {'a', 3}, {0x7f, 3}, {0x80, 3}, {0xe9, 3}, {0x7ff, 3},
		{0, 4}, {'a', 4}, {0x7ff, 4}, {0x800, 4}, {0xd800, 4}, {0xfeff, 4}, {0xfffd, 4}, {0xffff, 4},
	} {
		around(sequence(x.rune, x.bytes), func(s string, behind int) {
			fails(t, s, behind, api.ErrUtf8)
		})
	}
}

func TestP9_1NoRunes(t *testing.T) {
	for _, n := range []int{0xd800, 0xd801, 0xdbff, 0xdc00, 0xdfff} {
		around(sequence(n, 3), func(s string, behind int) {
			fails(t, s, behind, api.ErrUtf8)
		})
	}
	for _, n := range []int{0x110000, 0x110001, 0x13ffff, 0x140000, 0x1fffff} {
		around(sequence(n, 4), func(s string, behind int) {
			fails(t, s, behind, api.ErrUtf8)
		})
	}
	fails(t, sequence(0xd83d, 3)+sequence(0xde00, 3), 0, api.ErrUtf8) // 1f600 as two halves
	fails(t, "\xf8\x88\x80\x80\x80", 0, api.ErrUtf8)                  // forms of five and six bytes
	fails(t, "\xfc\x84\x80\x80\x80\x80", 0, api.ErrUtf8)
}

func TestP9_1CutOff(t *testing.T) {
	for _, r := range []int{0xa0, 0xe9, 0x7ff, 0x800, 0x65e5, 0xd7ff, 0xe000, 0xfffd, 0xffff, 0x10000, 0x1f600, 0x10ffff, 0x80, 0xfeff} {
		whole := text(r)
		for n := 1; n < len(whole); n++ {
			around(whole[:n], func(s string, behind int) {
				fails(t, s, behind, api.ErrUtf8)
			})
			fails(t, "ab"+whole[:n]+whole, 2, api.ErrUtf8)
		}
	}
}

func TestP9_1BytesThatBeginNone(t *testing.T) {
	for b := range 256 {
		s := string([]byte{byte(b)})
		begins := b < 0x80 || b >= 0xc2 && b <= 0xf4
		for _, tail := range []string{"", "a", "\x80", "\x80\x80", "\x80\x80\x80", "\xbf\xbf\xbf"} {
			if !begins {
				fails(t, s+tail, 0, api.ErrUtf8)
				fails(t, "é\n"+s+tail, 3, api.ErrUtf8)
			}
		}
	}
}

func TestP9_1LetIn(t *testing.T) {
	for _, r := range []int{0x9, 0xa, 0xd, 0x20, 0x7e, 0xa0, 0xd7, 0xf7, 0xfefe, 0xff00, 0xfffd, 0xfffe, 0xffff, 0x10ffff, 0x2028, 0x200b} {
		counts(t, text(r), r)
		counts(t, text('a', r, r, 0xe9), 'a', r, r, 0xe9)
	}
	for _, r := range []int{0, 1, 0x8, 0xb, 0xc, 0xe, 0x1b, 0x1f, 0x7f, 0x80, 0x85, 0x9f, 0xfeff} {
		around(text(r), func(s string, behind int) {
			fails(t, s, behind, api.ErrRune)
		})
	}
}

func TestP9_1ReplacementRune(t *testing.T) {
	// The rune fffd is let in where its three bytes stand, and only there.
	counts(t, "\xef\xbf\xbd\xef\xbf\xbd", 0xfffd, 0xfffd)
	fails(t, "\xef\xbf\xbd\xef\xbf", 3, api.ErrUtf8)
	fails(t, "\xef\xbf\xbd\xff\xef\xbf\xbd", 3, api.ErrUtf8)
	fails(t, "\xbd\xef\xbf\xbd", 0, api.ErrUtf8)
	fails(t, "\xef\xef\xbf\xbd", 0, api.ErrUtf8)
}

func TestP9_1FirstFault(t *testing.T) {
	bad := []string{"\xff", "\x80", "\xc3", "\xed\xa0\x80", "\xf4\x90\x80\x80", "\xc0\x80"}
	shut := []string{"\x00", "\x1f", "\x7f", text(0x80), text(0x9f), text(0xfeff)}
	for _, b := range bad {
		for _, r := range shut {
			for _, middle := range []string{"", "a", "日\n"} {
				fails(t, "é"+b+middle+r, 2, api.ErrUtf8)
				fails(t, "é"+r+middle+b, 2, api.ErrRune)
			}
		}
		for _, b2 := range bad {
			fails(t, "日"+b+"a"+b2, 3, api.ErrUtf8)
		}
	}
	for _, r := range shut {
		for _, r2 := range shut {
			fails(t, "日"+r+"a"+r2, 3, api.ErrRune)
		}
	}
}

func TestP9_1RunesIsNewMemory(t *testing.T) {
	s := "aé日"
	first, _, _ := Runes(s)
	second, _, _ := Runes(s)
	clear(first[:cap(first)])
	if !slices.Equal(second, []rune{'a', 'é', '日'}) || s != "aé日" {
		t.Error(second, s)
	}
	counts(t, s, 'a', 0xe9, 0x65e5)
}

// where asks for a line and a column.
func where(t *testing.T, s string, at, line, column int) {
	t.Helper()
	if l, c, errno := Where(s, at); l != line || c != column || errno != api.OK {
		t.Errorf("Where(%q, %d) = %d, %d, %d, wanted %d, %d", s, at, l, c, errno, line, column)
	}
}

// nowhere asks for an error, beside which nothing stands.
func nowhere(t *testing.T, s string, at int, want api.Errno) {
	t.Helper()
	if l, c, errno := Where(s, at); l != 0 || c != 0 || errno != want {
		t.Errorf("Where(%q, %d) = %d, %d, %d, wanted %d", s, at, l, c, errno, want)
	}
}

func TestP9_2Examples(t *testing.T) {
	where(t, "é\nab", 4, 2, 2)
	nowhere(t, "é", 1, api.ErrRange)
	where(t, "", 0, 1, 1)
}

func TestP9_2EachByte(t *testing.T) {
	// Of each byte the line and the column; 0 where no rune begins. The last is the end.
	s := "aé\n日\t\r\n\n\U0001f600b"
	want := [][2]int{
		{1, 1}, {1, 2}, {}, {1, 3},
		{2, 1}, {}, {}, {2, 2}, {2, 3}, {2, 4},
		{3, 1},
		{4, 1}, {}, {}, {}, {4, 2}, {4, 3},
	}
	if len(want) != len(s)+1 {
		t.Fatal(len(want), len(s))
	}
	for at, x := range want {
		if x == [2]int{} {
			nowhere(t, s, at, api.ErrRange)
		} else {
			where(t, s, at, x[0], x[1])
		}
	}
}

func TestP9_2NewLinesTabsReturns(t *testing.T) {
	where(t, "\n", 0, 1, 1)
	where(t, "\n", 1, 2, 1)
	where(t, "\n\n\n", 2, 3, 1)
	where(t, "\n\n\n", 3, 4, 1)
	where(t, "ab\ncd\n", 6, 3, 1)
	where(t, "\t", 1, 1, 2)
	where(t, "\t\tx", 2, 1, 3)
	where(t, "a\tb", 2, 1, 3)
	where(t, "\r", 1, 1, 2)
	where(t, "a\rb", 2, 1, 3)
	where(t, "a\r\nb", 2, 1, 3)
	where(t, "a\r\nb", 3, 2, 1)
	where(t, "\n\r\t", 3, 2, 3)
	where(t, text(0x2028, 'a'), 3, 1, 2) // a rune that parts lines elsewhere, but isn't a new line
	where(t, text(0xfffd, 'a'), 3, 1, 2)
}

func TestP9_2NoPlaces(t *testing.T) {
	for _, s := range []string{"", "a", "é\n", "日本", "\n\n"} {
		for _, at := range []int{math.MinInt, math.MinInt32, -2, -1, len(s) + 1, len(s) + 2, math.MaxInt32, math.MaxInt} {
			nowhere(t, s, at, api.ErrRange)
		}
	}
}

func TestP9_2NoTexts(t *testing.T) {
	for _, x := range []struct {
		s    string
		want api.Errno
	}{
		{"ab\xff", api.ErrUtf8}, {"\xffab", api.ErrUtf8}, {"é\n\xc3", api.ErrUtf8}, {"ab\x00", api.ErrRune}, {"\x7fab", api.ErrRune},
		{"a\x00\xff", api.ErrRune}, {"a\xff\x00", api.ErrUtf8}, {text('a', 0xfeff), api.ErrRune}, {"\xed\xa0\x80", api.ErrUtf8},
	} {
		// The whole string is asked first: places ahead of the fault have none either, nor do those that are no places.
		for at := -2; at <= len(x.s)+2; at++ {
			nowhere(t, x.s, at, x.want)
		}
		nowhere(t, x.s, math.MinInt, x.want)
		nowhere(t, x.s, math.MaxInt, x.want)
	}
}

// ends answers the least and the greatest rune of each range of a class, as the chapter lists them.
func ends(class int) [][2]rune {
	letter := [][2]rune{{'a', 'z'}, {'A', 'Z'}, {'_', '_'}, {0xc0, 0xd6}, {0xd8, 0xf6}, {0xf8, 0x24f}}
	digit := [][2]rune{{'0', '9'}}
	switch class {
	case 1:
		return letter
	case 2:
		return digit
	case 3:
		return append(letter, digit...)
	case 4:
		return [][2]rune{{' ', ' '}, {'\t', '\t'}, {'\n', '\n'}, {'\r', '\r'}}
	}
	return nil
}

// listed answers whether the chapter lists r under that class.
func listed(r rune, class int) bool {
	return slices.ContainsFunc(ends(class), func(e [2]rune) bool { return r >= e[0] && r <= e[1] })
}

func TestP9_3Examples(t *testing.T) {
	if !Is('Ā', 1) || Is('×', 1) {
		t.Error(Is('Ā', 1), Is('×', 1))
	}
}

func TestP9_3Named(t *testing.T) {
	of := func(r rune, want ...int) {
		t.Helper()
		for class := -1; class <= 6; class++ {
			if Is(r, class) != slices.Contains(want, class) {
				t.Errorf("Is(%x, %d) = %t", r, class, Is(r, class))
			}
		}
	}
	for _, r := range []rune{'a', 'm', 'z', 'A', 'M', 'Z', '_', 0xc0, 0xd6, 0xd8, 0xe9, 0xf6, 0xf8, 0xff, 0x100, 0x17f, 0x180, 0x24f} {
		of(r, 1, 3)
	}
	for _, r := range []rune{'0', '1', '5', '8', '9'} {
		of(r, 2, 3)
	}
	for _, r := range []rune{' ', '\t', '\n', '\r'} {
		of(r, 4)
	}
	for _, r := range []rune{'a' - 1, 'z' + 1, 'A' - 1, 'Z' + 1, '_' - 1, '0' - 1, '9' + 1, 0xd7, 0xf7, 0xbf, 0x250, 0xaa, 0xb5, 0xba, 0xa0,
		0x8, 0xb, 0xc, 0xe, 0x1f, 0x21, 0x7f, 0x85, 0, 0x3b1, 0x430, 0x660, 0x65e5, 0x2028, 0x3000, 0xfffd, 0xfeff, 0xff10, 0xff21} {
		of(r)
	}
	for _, r := range []rune{math.MinInt32, -0x250, -'a', -1, 0xd800, 0xdfff, 0x10ffff, 0x110000, 0x110000 + 'a', math.MaxInt32,
		1<<16 + 'a', 1<<24 + 'a', math.MinInt32 + 'a', math.MinInt32 + ' ', 1<<8*3 + 'a'} {
		of(r)
	}
}

func TestP9_3EachRune(t *testing.T) {
	for class := 0; class <= 5; class++ {
		for r := rune(-0x400); r <= 0x110400; r++ {
			if r < 0x400 || class == 1 || r%97 == 0 {
				if Is(r, class) != listed(r, class) {
					t.Fatalf("Is(%x, %d) = %t", r, class, Is(r, class))
				}
			}
		}
	}
}

func TestP9_3OtherClasses(t *testing.T) {
	for _, class := range []int{math.MinInt, math.MinInt32, -4, -3, -2, -1, 0, 5, 6, 7, 8, 12, 1 + 1<<8, 1 + 1<<16, 1 + 1<<32, math.MaxInt32, math.MaxInt} {
		for r := rune(-1); r < 0x300; r++ {
			if Is(r, class) {
				t.Fatalf("Is(%x, %d)", r, class)
			}
		}
	}
}

// runs asks where the run ends.
func runs(t *testing.T, s string, at, class, want int) {
	t.Helper()
	if end := Run(s, at, class); end != want {
		t.Errorf("Run(%q, %d, %d) = %d, wanted %d", s, at, class, end, want)
	}
}

func TestP9_4Examples(t *testing.T) {
	runs(t, "été1 x", 0, 3, 6)
	runs(t, "12a", 0, 2, 2)
	runs(t, "a", 5, 1, 5)
}

func TestP9_4EachByte(t *testing.T) {
	s := "éa12 \t日b\xff3c\xc3"
	for class, want := range [][]int{
		0: {0, 1, 2, 3, 4, 5, 6, 7, 8, 9, 10, 11, 12, 13, 14, 15},
		1: {3, 1, 3, 3, 4, 5, 6, 7, 8, 9, 11, 11, 12, 14, 14, 15},
		2: {0, 1, 2, 5, 5, 5, 6, 7, 8, 9, 10, 11, 13, 13, 14, 15},
		3: {5, 1, 5, 5, 5, 5, 6, 7, 8, 9, 11, 11, 14, 14, 14, 15},
		4: {0, 1, 2, 3, 4, 7, 7, 7, 8, 9, 10, 11, 12, 13, 14, 15},
		5: {0, 1, 2, 3, 4, 5, 6, 7, 8, 9, 10, 11, 12, 13, 14, 15},
	} {
		if len(want) != len(s)+1 {
			t.Fatal(len(want), len(s))
		}
		for at, end := range want {
			runs(t, s, at, class, end)
		}
	}
}

func TestP9_4NoPlaces(t *testing.T) {
	for _, s := range []string{"", "a", "aé", "12 \n", "\xff"} {
		for class := range 6 {
			for _, at := range []int{math.MinInt, math.MinInt32, -2, -1, len(s) + 1, len(s) + 2, math.MaxInt32, math.MaxInt} {
				runs(t, s, at, class, at)
			}
			runs(t, s, len(s), class, len(s))
		}
	}
}

func TestP9_4WithinSequences(t *testing.T) {
	for _, r := range []int{0xc0, 0xe9, 0x24f, 0x65e5, 0x1f600} {
		s := "a" + text(r) + "b"
		for at := 2; at < len(s)-1; at++ {
			for class := range 6 {
				runs(t, s, at, class, at)
			}
		}
	}
}

func TestP9_4WhatEndsARun(t *testing.T) {
	for _, tail := range []string{"\xff", "\x80", "\xc3", "\xc4\xc4", "\xc1\xa1", "\xe0\x81\xa1", "\xf0\x80\x81\xa1", "\xed\xa0\x80", "\xf4\x90\x80\x80",
		text(0xfffd), text(0xfeff), text(0xd7), text(0xf7), text(0x250), text(0xbf), "\x00", "\x7f", text(0x85), text(0xa0), "-", "#"} {
		for class, run := range []string{1: "aé_Z", 2: "0195", 3: "aé1_9", 4: " \t\r\n"} {
			for _, behind := range []string{"", run, "a1 "} {
				runs(t, run+tail+behind, 0, class, len(run))
				runs(t, "日"+run+tail+behind, 3, class, 3+len(run))
			}
		}
	}
	runs(t, "aé1", 0, 1, 3)
	runs(t, "12_", 0, 2, 2)
	runs(t, "a1 b", 0, 3, 2)
	runs(t, "\n\r \tx", 0, 4, 4)
}

func TestP9_4NoTextIsAsked(t *testing.T) {
	// What stands ahead of the place and behind the run doesn't matter.
	runs(t, "\xff\x00ab\xff\x00", 2, 1, 4)
	runs(t, "\xc3\xc3\xa9", 1, 1, 3)
	runs(t, "\xe6\x97é", 2, 1, 4)
}

func TestP9_4Long(t *testing.T) {
	for class, piece := range []string{1: "aé", 2: "01", 3: "é1", 4: " \n"} {
		s := strings.Repeat(piece, 1<<19)
		runs(t, s, 0, class, len(s))
		runs(t, s+"?", 0, class, len(s))
	}
}

func TestLongTexts(t *testing.T) {
	s := strings.Repeat("aé日\U0001f600\n", 1<<18)
	if n, at, errno := Check(s); n != 5<<18 || at != 0 || errno != api.OK {
		t.Error(n, at, errno)
	}
	if list, at, errno := Runes(s); len(list) != 5<<18 || at != 0 || errno != api.OK {
		t.Error(len(list), at, errno)
	}
	where(t, s, len(s), 1<<18+1, 1)
	where(t, s, len(s)-1, 1<<18, 5)
	fails(t, s+"\xff", len(s), api.ErrUtf8)
	fails(t, s+"\x00", len(s), api.ErrRune)
	nowhere(t, s+"\xff", 0, api.ErrUtf8)
}

func TestRunsCostNoMoreThanTheirLength(t *testing.T) {
	// Were the whole string gone through at each call, this would take 2^40 steps.
	s := strings.Repeat("a ", 1<<19)
	for at := 0; at < len(s); at += 2 {
		if end := Run(s, at, 1); end != at+1 {
			t.Fatal(at, end)
		}
	}
}

func TestNothingButTheAnswerIsMade(t *testing.T) {
	s := strings.Repeat("aé日\n", 1000)
	made := testing.AllocsPerRun(10, func() {
		Check(s)
		Where(s, len(s))
		Run(s, 0, 1)
	})
	if made != 0 {
		t.Error(made)
	}
	if list, _, _ := Runes(s); cap(list) > 2*len(list) {
		t.Error(len(list), cap(list))
	}
}

func TestCallsOnlyApi(t *testing.T) {
	files, err := filepath.Glob("*.go")
	if err != nil || len(files) == 0 {
		t.Fatal(files, err)
	}
	for _, name := range files {
		if strings.HasSuffix(name, "_test.go") {
			continue
		}
		file, err := parser.ParseFile(token.NewFileSet(), name, nil, parser.ImportsOnly)
		if err != nil {
			t.Fatal(err)
		}
		for _, spec := range file.Imports {
			path, _ := strconv.Unquote(spec.Path.Value)
			if strings.HasPrefix(path, "capstan/") && path != "capstan/api" {
				t.Errorf("%s imports %s", name, path)
			}
		}
	}
}
