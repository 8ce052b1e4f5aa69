package scan

import (
	"math/rand"
	"testing"

	"capstan/api"
)

// first reads the sequence at the beginning of s as the chapter has it: the rune and its width, or 0 and 0.
func first(s string) (int, int) {
	if s == "" {
		return 0, 0
	}
	n, bytes := int(s[0]), 1
	switch {
	case s[0] >= 0xf8:
		return 0, 0
	case s[0] >= 0xf0:
		n, bytes = n&7, 4
	case s[0] >= 0xe0:
		n, bytes = n&15, 3
	case s[0] >= 0xc0:
		n, bytes = n&31, 2
	case s[0] >= 0x80:
		return 0, 0
	}
	if len(s) < bytes {
		return 0, 0
	}
	for i := 1; i < bytes; i++ {
		if s[i]&0xc0 != 0x80 {
			return 0, 0
		}
		n = n<<6 | int(s[i]&0x3f)
	}
	if n > 0x10ffff || n >= 0xd800 && n <= 0xdfff || bytes != width(n) {
		return 0, 0
	}
	return n, bytes
}

// open answers whether the chapter lets r in.
func open(r int) bool {
	return r == 9 || r == 0xa || r == 0xd || r >= 0x20 && !(r >= 0x7f && r <= 0x9f) && r != 0xfeff
}

// plain is what the chapter says of a string: the runes and where each begins, and the first fault.
type plain struct {
	runes, starts []int
	place         int
	errno         api.Errno
}

func read(s string) plain {
	var p plain
	for at := 0; at < len(s); {
		r, bytes := first(s[at:])
		if bytes == 0 {
			return plain{place: at, errno: api.ErrUtf8}
		}
		if !open(r) {
			return plain{place: at, errno: api.ErrRune}
		}
		p.runes = append(p.runes, r)
		p.starts = append(p.starts, at)
		at += bytes
	}
	return p
}

// whereOf answers what Where has to say.
func (p plain) whereOf(s string, at int) (int, int, api.Errno) {
	if p.errno != api.OK {
		return 0, 0, p.errno
	}
	line, begin := 1, 0
	for i, start := range append(p.starts[:len(p.starts):len(p.starts)], len(s)) {
		if start == at {
			return line, i - begin + 1, api.OK
		}
		if i < len(p.runes) && p.runes[i] == 0xa {
			line, begin = line+1, i+1
		}
	}
	return 0, 0, api.ErrRange
}

// runOf answers what Run has to say.
func runOf(s string, at, class int) int {
	if at < 0 || at > len(s) {
		return at
	}
	for {
		r, bytes := first(s[at:])
		if bytes == 0 || !listed(rune(r), class) {
			return at
		}
		at += bytes
	}
}

// agrees holds all calls on s against the plain reading.
func agrees(t *testing.T, s string) {
	t.Helper()
	p := read(s)
	if p.errno == api.OK {
		counts(t, s, p.runes...)
	} else {
		fails(t, s, p.place, p.errno)
	}
	for at := -1; at <= len(s)+1; at++ {
		line, column, errno := p.whereOf(s, at)
		if l, c, e := Where(s, at); l != line || c != column || e != errno {
			t.Errorf("Where(%q, %d) = %d, %d, %d, wanted %d, %d, %d", s, at, l, c, e, line, column, errno)
		}
		for class := 0; class <= 5; class++ {
			runs(t, s, at, class, runOf(s, at, class))
		}
	}
	if t.Failed() {
		t.FailNow()
	}
}

// edges are the bytes at which what a sequence is changes.
func edges() []byte {
	return []byte{0, 9, 0xa, 0x1f, ' ', '0', 'a', 0x7e, 0x7f, 0x80, 0x8f, 0x90, 0x9f, 0xa0, 0xbb, 0xbd, 0xbf, 0xc0, 0xc1, 0xc2, 0xc3, 0xc9, 0xdf,
		0xe0, 0xe1, 0xec, 0xed, 0xee, 0xef, 0xf0, 0xf1, 0xf3, 0xf4, 0xf5, 0xf7, 0xf8, 0xfb, 0xfc, 0xfe, 0xff}
}

func TestP9_1To4ShortStrings(t *testing.T) {
	agrees(t, "")
	for a := range 256 {
		agrees(t, string([]byte{byte(a)}))
		for b := range 256 {
			agrees(t, string([]byte{byte(a), byte(b)}))
		}
	}
	for _, a := range edges() {
		for _, b := range edges() {
			for _, c := range edges() {
				agrees(t, string([]byte{a, b, c}))
			}
		}
	}
}

func TestP9_1FourBytes(t *testing.T) {
	for _, a := range edges() {
		for _, b := range edges() {
			for _, c := range edges() {
				for _, d := range edges() {
					s := string([]byte{a, b, c, d})
					p := read(s)
					if n, at, errno := Check(s); n != len(p.runes) || at != p.place || errno != p.errno {
						t.Fatalf("Check(%q) = %d, %d, %d, wanted %v", s, n, at, errno, p)
					}
				}
			}
		}
	}
}

func TestP9_1ThreeBytes(t *testing.T) {
	list := []byte{0, 0, 0}
	for n := range 1 << 24 {
		if n>>16 < 0x7d {
			continue // a first byte of ASCII is asked elsewhere
		}
		list[0], list[1], list[2] = byte(n>>16), byte(n>>8), byte(n)
		s := string(list)
		p := faultOf(s)
		if _, at, errno := Check(s); at != p.place || errno != p.errno {
			t.Fatalf("Check(%q) = %d, %d, wanted %v", s, at, errno, p)
		}
	}
}

// faultOf is read without the lists, for the sake of speed.
func faultOf(s string) plain {
	for at := 0; at < len(s); {
		r, bytes := first(s[at:])
		if bytes == 0 {
			return plain{place: at, errno: api.ErrUtf8}
		}
		if !open(r) {
			return plain{place: at, errno: api.ErrRune}
		}
		at += bytes
	}
	return plain{}
}

func TestP9_1EachRune(t *testing.T) {
	for r := range 0x110000 {
		s := sequence(r, width(r))
		n, at, errno := Check(s)
		switch {
		case r >= 0xd800 && r <= 0xdfff:
			if n != 0 || at != 0 || errno != api.ErrUtf8 {
				t.Fatalf("%x: %d, %d, %d", r, n, at, errno)
			}
		case !open(r):
			if n != 0 || at != 0 || errno != api.ErrRune {
				t.Fatalf("%x: %d, %d, %d", r, n, at, errno)
			}
		default:
			list, _, _ := Runes(s)
			if n != 1 || at != 0 || errno != api.OK || len(list) != 1 || int(list[0]) != r {
				t.Fatalf("%x: %d, %d, %d, %x", r, n, at, errno, list)
			}
		}
	}
}

// pieces are parts of strings: texts, runes that are not let in, and bytes that are none.
func pieces() []string {
	return []string{"a", "Z", "_", "0", "9", " ", "\t", "\n", "\r", "é", "Ā", "ɏ", "ɐ", "×", "÷", "日", "\ufffd", "\U0001f600", "\U0010ffff", "#", "-",
		"\x00", "\x7f", "\u0085", "\ufeff", "\xff", "\x80", "\xc3", "\xe6\x97", "\xed\xa0\x80", "\xf4\x90\x80\x80", "\xc1\xa1", "\xef\xbf"}
}

func TestP9_1To4RandomStrings(t *testing.T) {
	random := rand.New(rand.NewSource(9))
	list := pieces()
	for range 20000 {
		most := len(list)
		if random.Intn(2) == 0 {
			most = 21 // texts alone
		}
		s := ""
		for range random.Intn(12) {
			s += list[random.Intn(most)]
		}
		agrees(t, s)
	}
	for range 5000 {
		bytes := make([]byte, random.Intn(16))
		for i := range bytes {
			bytes[i] = byte(random.Intn(256))
		}
		agrees(t, string(bytes))
	}
}

func TestP9_1To4AllOrders(t *testing.T) {
	// One of each pair and triple of pieces.
	for _, a := range pieces() {
		for _, b := range pieces() {
			agrees(t, a+b)
			for _, c := range pieces() {
				agrees(t, a+b+c)
			}
		}
	}
}
