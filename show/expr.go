package show

import (
	"capstan/api"
	"capstan/num"
)

// operation is how a kind of expression stands: its sign (none, if it has a word or a text of its own),
// its level, and the levels that its parts need (0, if they never stand in brackets of their own).
type operation struct {
	sign                 string
	level, first, second int
}

func operationOf(kind int) operation {
	switch kind {
	case api.KOr:
		return operation{" or ", 1, 1, 2}
	case api.KAnd:
		return operation{" and ", 2, 2, 3}
	case api.KLess:
		return operation{" < ", 3, 4, 4}
	case api.KLeq:
		return operation{" <= ", 3, 4, 4}
	case api.KEq:
		return operation{" = ", 3, 4, 4}
	case api.KMore:
		return operation{" > ", 3, 4, 4}
	case api.KMeq:
		return operation{" >= ", 3, 4, 4}
	case api.KAdd:
		return operation{" + ", 4, 4, 5}
	case api.KSub:
		return operation{" - ", 4, 4, 5}
	case api.KMul:
		return operation{" * ", 5, 5, 6}
	case api.KDiv:
		return operation{" / ", 5, 5, 6}
	case api.KNeg:
		return operation{sign: "-", level: 6, first: 7}
	case api.KNot:
		return operation{sign: "not ", level: 6, first: 7}
	}
	return operation{level: 7}
}

// word answers the word of a kind that has one.
func word(kind int) string {
	switch kind {
	case api.KTrue:
		return "true"
	case api.KFalse:
		return "false"
	case api.KReplicas:
		return "replicas"
	case api.KCron:
		return "cron"
	case api.KSum:
		return "sum"
	case api.KAvg:
		return "avg"
	case api.KLow:
		return "low"
	case api.KHigh:
		return "high"
	case api.KCount:
		return "count"
	case api.KRank:
		return "rank"
	case api.KAbs:
		return "abs"
	case api.KCeil:
		return "ceil"
	case api.KFloor:
		return "floor"
	case api.KMin:
		return "min"
	case api.KMax:
		return "max"
	case api.KEither:
		return "either"
	case api.KIf:
		return "if"
	}
	return ""
}

func (w *writer) expression(t api.Term) {
	own := operationOf(t.Kind)
	switch {
	case own.sign == "":
		w.atom(t)
	case len(t.Parts) == 1:
		w.add(own.sign)
		w.part(t.Parts[0], own.first)
	default:
		w.part(t.Parts[0], own.first)
		w.add(own.sign)
		w.part(t.Parts[1], own.second)
	}
}

// part puts t at the end, in brackets if its level is below the one that is needed there.
func (w *writer) part(t api.Term, needed int) {
	if operationOf(t.Kind).level >= needed {
		w.expression(t)
		return
	}
	w.begin("(")
	w.expression(t)
	w.end(")")
}

func (w *writer) atom(t api.Term) {
	switch t.Kind {
	case api.KNum:
		w.add(num.Text(t.N))
		w.unit("[", t.Text)
	case api.KName:
		w.add(t.Text)
	case api.KTrue, api.KFalse, api.KReplicas:
		w.add(word(t.Kind))
	default:
		w.call(t)
	}
}

// unit puts the unit behind the bracket, if there is one.
func (w *writer) unit(bracket, text string) {
	if text != "" {
		w.add(bracket + text + "]")
	}
}

func (w *writer) call(t api.Term) {
	w.add(word(t.Kind))
	w.begin("(")
	switch t.Kind {
	case api.KCron:
		w.add(`"` + t.Text + `"`)
	case api.KSum, api.KAvg, api.KLow, api.KHigh, api.KCount:
		w.add(t.Text, ", ", span(t.N))
	case api.KRank:
		w.add(t.Text, ", ", span(t.N), ", ", num.Text(t.M))
	default:
		w.list(t.Parts)
	}
	w.end(")")
}

func (w *writer) list(parts []api.Term) {
	for i, part := range parts {
		if i > 0 {
			w.add(", ")
		}
		w.expression(part)
	}
}

// span answers the text of the seconds, which are a duration's in all that is formed.
func span(seconds int64) string {
	text, _ := num.SpanText(seconds)
	return text
}
