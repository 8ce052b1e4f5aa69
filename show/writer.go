package show

import (
	"strings"

	"capstan/api"
)

// writer gathers a text token by token, and counts what the limits are about.
type writer struct {
	strings.Builder
	tokens  int
	open    int // how many brackets ( and { are
	deepest int // how many were, at most
}

// add puts tokens at the end, each with the blanks that stand about it.
func (w *writer) add(tokens ...string) {
	for _, token := range tokens {
		w.tokens++
		// Of a text that is refused only the counts are asked: it need not grow on.
		if w.tokens <= api.MaxTokens {
			w.WriteString(token)
		}
	}
}

func (w *writer) begin(bracket string) {
	w.add(bracket)
	w.open++
	w.deepest = max(w.deepest, w.open)
}

func (w *writer) end(bracket string) {
	w.add(bracket)
	w.open--
}

// told answers the text, if it is within the limits.
func (w *writer) told() (string, api.Errno) {
	switch {
	case w.deepest > api.MaxDepth:
		return "", api.ErrDeep
	case w.tokens > api.MaxTokens:
		return "", api.ErrLarge
	case w.Len() > api.MaxSource:
		return "", api.ErrLong
	}
	return w.String(), api.OK
}
