package lex

import (
	"strings"
	"unicode/utf8"

	"capstan/api"
	"capstan/num"
	"capstan/scan"
)

// reader goes through a text in which scan.Check finds no fault; at is how far it has come.
// Where it gives up with an error, it stands at the fault.
type reader struct {
	text string
	at   int
}

// all cuts all that is left.
func (r *reader) all() ([]api.Token, api.Errno) {
	cuts := []func() (api.Token, api.Errno){r.nameOrWord, r.numberOrDuration, r.quoted, r.bracket, r.sign}
	var list []api.Token
	for r.skip(); r.at < len(r.text); r.skip() {
		// Asked ahead of the token: one too many is told as such, even if it is a fault.
		if len(list) == api.MaxTokens {
			return nil, api.ErrLarge
		}
		token, errno := firstOf(cuts)
		if errno != api.OK {
			return nil, errno
		}
		list = append(list, token)
	}
	return append(list, api.Token{Kind: api.End, At: r.at}), api.OK
}

// firstOf tries the cuts one behind the other. A cut answers a token and has gone over it,
// or a fault of what it knows by its first rune, or nothing: what stands there isn't its own.
func firstOf(cuts []func() (api.Token, api.Errno)) (api.Token, api.Errno) {
	for _, cut := range cuts {
		token, errno := cut()
		if token.Kind != 0 || errno != api.OK {
			return token, errno
		}
	}
	return api.Token{}, api.ErrToken
}

// skip goes over blanks and remarks.
func (r *reader) skip() {
	r.at = scan.Run(r.text, r.at, blanks)
	for strings.HasPrefix(r.text[r.at:], "#") {
		remark, _, _ := strings.Cut(r.text[r.at:], "\n")
		r.at = scan.Run(r.text, r.at+len(remark), blanks)
	}
}

// take goes on to the end, and answers the token of what it has gone over.
func (r *reader) take(end, kind int, text string, n int64) api.Token {
	// A piece of the text itself would keep all of it in memory, as long as one token is kept.
	token := api.Token{Kind: kind, Text: strings.Clone(text), N: n, At: r.at}
	r.at = end
	return token
}

func (r *reader) nameOrWord() (api.Token, api.Errno) {
	if scan.Run(r.text, r.at, letters) == r.at {
		return api.Token{}, api.OK
	}
	end := scan.Run(r.text, r.at, lettersAndDigits)
	text := r.text[r.at:end]
	switch {
	case Reserved(text):
		return r.take(end, api.Word, text, 0), api.OK
	case IsName(text):
		return r.take(end, api.Name, text, 0), api.OK
	}
	return api.Token{}, api.ErrToken
}

func (r *reader) numberOrDuration() (api.Token, api.Errno) {
	end := scan.Run(r.text, r.at, digits)
	if end == r.at {
		return api.Token{}, api.OK
	}
	if strings.HasPrefix(r.text[end:], ".") {
		if places := scan.Run(r.text, end+1, digits); places > end+1 {
			end = places
		}
	}
	kind, read := api.Number, num.Read
	// All digits are gone over: if anything of the class follows, a letter does.
	if behind := scan.Run(r.text, end, lettersAndDigits); behind > end {
		end, kind, read = behind, api.Duration, num.ReadSpan
	}
	text := r.text[r.at:end]
	n, errno := read(text)
	if errno != api.OK {
		return api.Token{}, errno
	}
	return r.take(end, kind, text, n), api.OK
}

func (r *reader) quoted() (api.Token, api.Errno) {
	return r.enclosed(api.Quoted, `"`, `"`, "\"\n")
}

func (r *reader) bracket() (api.Token, api.Errno) {
	return r.enclosed(api.Bracket, "[", "]", "[]\"\n")
}

// enclosed cuts what stands between first and last, in which none of the runes of never may stand.
func (r *reader) enclosed(kind int, first, last, never string) (api.Token, api.Errno) {
	rest, ok := strings.CutPrefix(r.text[r.at:], first)
	if !ok {
		return api.Token{}, api.OK
	}
	length := strings.IndexAny(rest, never)
	if length < 0 || !strings.HasPrefix(rest[length:], last) {
		return api.Token{}, api.ErrToken
	}
	text := rest[:length]
	if utf8.RuneCountInString(text) > api.MaxText {
		return api.Token{}, api.ErrToken
	}
	return r.take(r.at+len(first)+length+len(last), kind, text, 0), api.OK
}

func (r *reader) sign() (api.Token, api.Errno) {
	for _, length := range []int{2, 1} { // a token reaches as far as it can
		end := r.at + length
		if end <= len(r.text) && isSign(r.text[r.at:end]) {
			return r.take(end, api.Sign, r.text[r.at:end], 0), api.OK
		}
	}
	return api.Token{}, api.OK
}

func isSign(text string) bool {
	switch text {
	case "..", "<=", ">=", ";", ":", ",", "=", "(", ")", "{", "}", "+", "-", "*", "/", "<", ">":
		return true
	}
	return false
}
