package parse

import (
	"strconv"

	"capstan/api"
	"capstan/lex"
)

// fault is the error with which the reader gives up, and its place.
type fault struct {
	at    int
	errno api.Errno
}

func (f fault) Error() string {
	return "error " + strconv.Itoa(int(f.errno)) + " at " + strconv.Itoa(f.at)
}

// reader goes through the tokens of a text, each of which is looked at ahead of being taken: so
// all that are taken begin what is read, and the one at which it gives up is the first that is wrong.
type reader struct {
	tokens []api.Token                   // those that are not taken yet; the last one, the end, never is
	torn   api.Errno                     // what is wrong with the token in whose place the end stands; OK, if it is the text's own
	open   int                           // how many brackets are
	levels []func(*reader, int) api.Term // made once, since each expression asks for all of them
}

// newReader answers a reader of s; or the place and the error, if s is no text at all.
func newReader(s string) (*reader, int, api.Errno) {
	tokens, at, errno := lex.Cut(s)
	switch errno {
	case api.ErrLong, api.ErrUtf8, api.ErrRune:
		return nil, at, errno
	case api.OK:
		return &reader{tokens: tokens, levels: levels()}, 0, api.OK
	}
	// A token is at fault, but one ahead of it may be out of place. No token reaches over the
	// place at which another begins: what stands ahead of that is cut as it was.
	ahead, _, _ := lex.Cut(s[:at])
	return &reader{tokens: ahead, torn: errno, levels: levels()}, 0, api.OK
}

// next answers the token that isn't taken yet; if it is at fault itself, the reader gives up.
func (r *reader) next() api.Token {
	token := r.tokens[0]
	if token.Kind == api.End && r.torn != api.OK {
		panic(fault{token.At, r.torn})
	}
	return token
}

// unfit answers the fault that the next token isn't one with which what was taken goes on.
func (r *reader) unfit() fault {
	return fault{r.next().At, api.ErrSyntax}
}

// is answers whether the next token is this sign or reserved word; a text that says the same is neither.
func (r *reader) is(text string) bool {
	token := r.next()
	return token.Text == text && (token.Kind == api.Sign || token.Kind == api.Word)
}

// take takes the next token, which must be of the kind.
func (r *reader) take(kind int) api.Token {
	token := r.next()
	if token.Kind != kind {
		panic(r.unfit())
	}
	r.tokens = r.tokens[1:]
	return token
}

// must takes the next token, which must be this sign or reserved word, and answers its place.
func (r *reader) must(text string) int {
	if !r.is(text) {
		panic(r.unfit())
	}
	return r.take(r.next().Kind).At
}

// may takes the next token, if it is this sign or reserved word, and answers whether it was.
func (r *reader) may(text string) bool {
	found := r.is(text)
	if found {
		r.must(text)
	}
	return found
}

// begin takes a bracket that opens, if there may be one more.
func (r *reader) begin(bracket string) {
	at := r.must(bracket)
	if r.open == api.MaxDepth {
		panic(fault{at, api.ErrDeep})
	}
	r.open++
}

// close takes the bracket that ends what the last begin began.
func (r *reader) close(bracket string) {
	r.must(bracket)
	r.open--
}

// end wants that nothing is left.
func (r *reader) end() {
	if r.next().Kind != api.End {
		panic(r.unfit())
	}
}
