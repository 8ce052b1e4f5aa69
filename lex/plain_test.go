package lex

import (
	"math/rand"
	"regexp"
	"slices"
	"strings"
	"testing"
	"unicode/utf8"

	"capstan/api"
	"capstan/num"
)

// The chapter's forms, each at the beginning of what is left.
var (
	gapForm     = regexp.MustCompile(`\A(?:[ \t\n\r]|#[^\n]*)*`)
	nameForm    = regexp.MustCompile(`\A[a-zA-Z_\x{c0}-\x{d6}\x{d8}-\x{f6}\x{f8}-\x{24f}][a-zA-Z_\x{c0}-\x{d6}\x{d8}-\x{f6}\x{f8}-\x{24f}0-9]*`)
	digitForm   = regexp.MustCompile(`\A[0-9]+(?:\.[0-9]+)?(?:[a-zA-Z_\x{c0}-\x{d6}\x{d8}-\x{f6}\x{f8}-\x{24f}][a-zA-Z_\x{c0}-\x{d6}\x{d8}-\x{f6}\x{f8}-\x{24f}0-9]*)?`)
	quotedForm  = regexp.MustCompile(`\A"([^"\n]{0,64})"`)
	bracketForm = regexp.MustCompile(`\A\[([^\[\]"\n]{0,64})\]`)
	signForm    = regexp.MustCompile(`\A(?:\.\.|<=|>=|[;:,=(){}+\-*/<>])`)
	onlyDigits  = regexp.MustCompile(`\A[0-9.]+\z`)
)

// checked answers the first fault of the text, by its runes.
func checked(s string) (int, api.Errno) {
	for at := 0; at < len(s); {
		r, width := utf8.DecodeRuneInString(s[at:])
		switch {
		case r == utf8.RuneError && width == 1:
			return at, api.ErrUtf8
		case r == '\t' || r == '\n' || r == '\r':
		case r < ' ' || r >= 0x7f && r <= 0x9f || r == 0xfeff:
			return at, api.ErrRune
		}
		at += width
	}
	return 0, api.OK
}

// piece answers the token at the beginning of rest, and its number of bytes; or an error.
func piece(rest string) (api.Token, int, api.Errno) {
	if text := nameForm.FindString(rest); text != "" {
		switch {
		case slices.Contains(strings.Fields(words), text):
			return api.Token{Kind: api.Word, Text: text}, len(text), api.OK
		case len([]rune(text)) > 32:
			return api.Token{}, 0, api.ErrToken
		}
		return api.Token{Kind: api.Name, Text: text}, len(text), api.OK
	}
	if text := digitForm.FindString(rest); text != "" {
		token := api.Token{Kind: api.Number, Text: text}
		n, errno := num.Read(text)
		if !onlyDigits.MatchString(text) {
			token.Kind = api.Duration
			n, errno = num.ReadSpan(text)
		}
		token.N = n
		return token, len(text), errno
	}
	if found := quotedForm.FindStringSubmatch(rest); found != nil {
		return api.Token{Kind: api.Quoted, Text: found[1]}, len(found[0]), api.OK
	}
	if found := bracketForm.FindStringSubmatch(rest); found != nil {
		return api.Token{Kind: api.Bracket, Text: found[1]}, len(found[0]), api.OK
	}
	if text := signForm.FindString(rest); text != "" {
		return api.Token{Kind: api.Sign, Text: text}, len(text), api.OK
	}
	return api.Token{}, 0, api.ErrToken
}

// plainCut is what Cut has to say of s, by the chapter's forms.
func plainCut(s string) ([]api.Token, int, api.Errno) {
	if len(s) > 1048576 {
		return nil, 0, api.ErrLong
	}
	if at, errno := checked(s); errno != api.OK {
		return nil, at, errno
	}
	var list []api.Token
	for at := 0; ; {
		at += len(gapForm.FindString(s[at:]))
		if at == len(s) {
			return append(list, api.Token{Kind: api.End, At: at}), 0, api.OK
		}
		if len(list) == 16384 {
			return nil, at, api.ErrLarge
		}
		token, length, errno := piece(s[at:])
		if errno != api.OK {
			return nil, at, errno
		}
		token.At = at
		list = append(list, token)
		at += length
	}
}

// plainName is what IsName has to say of s.
func plainName(s string) bool {
	return s != "" && nameForm.FindString(s) == s && len([]rune(s)) <= 32 && !slices.Contains(strings.Fields(words), s)
}

// agrees holds all calls on s against the plain reading.
func agrees(t *testing.T, s string) {
	t.Helper()
	list, at, errno := plainCut(s)
	l, a, e := Cut(s)
	if !slices.Equal(l, list) || a != at || e != errno {
		t.Fatalf("Cut(%q) = %v, %d, %d, wanted %v, %d, %d", s, l, a, e, list, at, errno)
	}
	if IsName(s) != plainName(s) {
		t.Fatalf("IsName(%q) = %t", s, IsName(s))
	}
	if Reserved(s) != slices.Contains(strings.Fields(words), s) {
		t.Fatalf("Reserved(%q) = %t", s, Reserved(s))
	}
}

func TestP11_1And2EachRune(t *testing.T) {
	step := rune(1)
	for r := rune(0); r <= 0x10ffff; r += step {
		if r > 0x3000 {
			step = 61
		}
		x := string(r)
		for _, s := range []string{x, "a" + x, "1" + x, x + "=", "1." + x, `"` + x + `"`, "[" + x + "]", "#" + x + "\nb"} {
			agrees(t, s)
		}
	}
	for _, r := range []rune{0xfefe, 0xfeff, 0xff00, 0xfffd, 0xfffe, 0xffff, 0x10000, 0x10ffff} {
		agrees(t, string(r))
	}
}

func TestP11_1And2ShortStringsOfBytes(t *testing.T) {
	agrees(t, "")
	for a := range 256 {
		agrees(t, string([]byte{byte(a)}))
		for b := range 256 {
			agrees(t, string([]byte{byte(a), byte(b)}))
		}
	}
}

func TestP11_1And2ShortStrings(t *testing.T) {
	runes := []string{"a", "é", "0", "1", "h", "s", ".", `"`, "[", "]", "#", "\n", " ", "<", "=", ";", "×"}
	var grow func(s string, left int)
	grow = func(s string, left int) {
		agrees(t, s)
		if left == 0 {
			return
		}
		for _, x := range runes {
			grow(s+x, left-1)
		}
	}
	grow("", 4)
}

// pieces are what random texts are made of.
func pieces() []string {
	list := append(strings.Fields(words), strings.Fields(signs)...)
	list = append(list, "a", "cpu_1", "é", "Ā9", "_", "0", "1", "42", "1.5", "0.000001", "9223372036854.775807", "01", "1.0000000", "1h30m", "90s", "7d", "7d1s", "1m1m", "0s",
		`"`, `""`, `"0 3 * * *"`, `"é #"`, "[", "]", "[]", "[req/s]", "[é]", "#", "# é\n", "#\n", "\n", "\r", "\t", ".", "h", "m", "s", "!", "@", "日", "×", "\ufffd",
		strings.Repeat("b", 31), strings.Repeat("é", 16), strings.Repeat("1", 13), `"`+strings.Repeat("é", 63), "["+strings.Repeat("日", 63))
	for range 30 {
		list = append(list, " ")
	}
	return list
}

func TestP11_1RandomTexts(t *testing.T) {
	random := rand.New(rand.NewSource(11))
	list := pieces()
	for range 150000 {
		s := ""
		for range random.Intn(12) {
			s += list[random.Intn(len(list))]
		}
		agrees(t, s)
	}
}

func TestP11_1RandomTextsWithoutFaults(t *testing.T) {
	// Faults are so frequent among all texts that long ones without any have to be sought for.
	random := rand.New(rand.NewSource(111))
	list := pieces()
	for range 1000 {
		s := ""
		for range 60 {
			more := s + list[random.Intn(len(list))]
			if _, _, errno := plainCut(more); errno == api.OK {
				s = more
			}
		}
		agrees(t, s)
		if s != "" { // and with one byte of it gone, or another
			at := random.Intn(len(s))
			agrees(t, s[:at]+s[at+1:])
			agrees(t, s[:at]+string([]byte{byte(random.Intn(256))})+s[at+1:])
			agrees(t, s[:at])
		}
	}
}

func TestP11_1RandomLongTexts(t *testing.T) {
	random := rand.New(rand.NewSource(112))
	good := []string{"a", "to", "1", "1.5", "1h", `"é"`, "[s]", ";", "<=", "(", "# é @\n"}
	for range 40 {
		var b strings.Builder
		for range api.MaxTokens - 20 {
			b.WriteString(good[random.Intn(len(good)-1)])
			b.WriteString(" ")
		}
		for range random.Intn(50) {
			b.WriteString(good[random.Intn(len(good))])
			b.WriteString("\n")
		}
		if random.Intn(2) == 0 {
			b.WriteString("@")
		}
		agrees(t, b.String())
	}
}
