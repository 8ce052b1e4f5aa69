package parse

import "capstan/api"

// sign is what stands between two parts, and the kind of the term that it makes of them.
type sign struct {
	text string
	kind int
}

// term answers a term of these parts. Each call has a list of its own for them: none is spread from another list.
func term(kind, at int, parts ...api.Term) api.Term {
	return api.Term{Kind: kind, At: at, Parts: parts}
}

// levels answers how the signs are read that stand between two parts, those that bind least first.
// Each is told its own place here, by which it finds the one that reads its parts.
func levels() []func(*reader, int) api.Term {
	return []func(*reader, int) api.Term{
		(*reader).or,
		(*reader).and,
		(*reader).comparison,
		(*reader).sum,
		(*reader).product,
	}
}

func (r *reader) expression() api.Term {
	return r.level(0)
}

// level reads a term of that level, or of one that binds more.
func (r *reader) level(level int) api.Term {
	if level == len(r.levels) {
		return r.factor()
	}
	return r.levels[level](r, level)
}

func (r *reader) or(level int) api.Term {
	return r.fromLeft(level, sign{"or", api.KOr})
}

func (r *reader) and(level int) api.Term {
	return r.fromLeft(level, sign{"and", api.KAnd})
}

// comparison reads one comparison at most: what it says is no number to compare again.
func (r *reader) comparison(level int) api.Term {
	t, _ := r.joined(r.level(level+1), level,
		sign{"<", api.KLess}, sign{"<=", api.KLeq}, sign{"=", api.KEq}, sign{">", api.KMore}, sign{">=", api.KMeq})
	return t
}

func (r *reader) sum(level int) api.Term {
	return r.fromLeft(level, sign{"+", api.KAdd}, sign{"-", api.KSub})
}

func (r *reader) product(level int) api.Term {
	return r.fromLeft(level, sign{"*", api.KMul}, sign{"/", api.KDiv})
}

// fromLeft reads as many parts as there are with one of the signs between them.
func (r *reader) fromLeft(level int, signs ...sign) api.Term {
	t, more := r.level(level+1), true
	for more {
		t, more = r.joined(t, level, signs...)
	}
	return t
}

// joined answers the term of first and the part behind one of the signs; first and false, if none of them is next.
func (r *reader) joined(first api.Term, level int, signs ...sign) (api.Term, bool) {
	for _, s := range signs {
		if r.is(s.text) {
			return term(s.kind, r.must(s.text), first, r.level(level+1)), true
		}
	}
	return first, false
}

func (r *reader) factor() api.Term {
	switch {
	case r.is("-"):
		return term(api.KNeg, r.must("-"), r.atom())
	case r.is("not"):
		return term(api.KNot, r.must("not"), r.atom())
	}
	return r.atom()
}

func (r *reader) atom() api.Term {
	switch token := r.next(); token.Kind {
	case api.Number:
		return r.number()
	case api.Name:
		r.take(api.Name)
		return api.Term{Kind: api.KName, Text: token.Text, At: token.At}
	case api.Word:
		return r.word(token.Text)
	}
	r.begin("(")
	t := r.expression()
	r.close(")")
	return t
}

func (r *reader) number() api.Term {
	token := r.take(api.Number)
	return api.Term{Kind: api.KNum, N: token.N, Text: r.unit(), At: token.At}
}

// unit answers the text of the unit that is next, if one is.
func (r *reader) unit() string {
	if r.next().Kind != api.Bracket {
		return ""
	}
	return r.take(api.Bracket).Text
}

// word reads the atom that begins with the reserved word.
func (r *reader) word(word string) api.Term {
	switch word {
	case "true":
		return term(api.KTrue, r.must(word))
	case "false":
		return term(api.KFalse, r.must(word))
	case "replicas":
		return term(api.KReplicas, r.must(word))
	case "if":
		return r.call(word, api.KIf, 3)
	case "min":
		return r.call(word, api.KMin, 2)
	case "max":
		return r.call(word, api.KMax, 2)
	case "either":
		return r.call(word, api.KEither, 2)
	case "abs":
		return r.call(word, api.KAbs, 1)
	case "ceil":
		return r.call(word, api.KCeil, 1)
	case "floor":
		return r.call(word, api.KFloor, 1)
	case "cron":
		return r.cron()
	}
	return r.window(word) // all other words that may stand here name one
}

// call reads a call of that many expressions.
func (r *reader) call(word string, kind, count int) api.Term {
	t := term(kind, r.must(word))
	r.begin("(")
	t.Parts = append(t.Parts, r.expression())
	for range count - 1 {
		r.must(",")
		t.Parts = append(t.Parts, r.expression())
	}
	r.close(")")
	return t
}

func (r *reader) cron() api.Term {
	t := term(api.KCron, r.must("cron"))
	r.begin("(")
	t.Text = r.take(api.Quoted).Text
	r.close(")")
	return t
}

func (r *reader) window(word string) api.Term {
	kind := windowKind(word)
	if kind == 0 {
		panic(r.unfit())
	}
	t := term(kind, r.must(word))
	r.begin("(")
	t.Text = r.take(api.Name).Text
	r.must(",")
	t.N = r.take(api.Duration).N
	if kind == api.KRank {
		r.must(",")
		t.M = r.take(api.Number).N
	}
	r.close(")")
	return t
}

// windowKind answers the kind of the window that the word names; 0, if it names none.
func windowKind(word string) int {
	switch word {
	case "sum":
		return api.KSum
	case "avg":
		return api.KAvg
	case "low":
		return api.KLow
	case "high":
		return api.KHigh
	case "count":
		return api.KCount
	case "rank":
		return api.KRank
	}
	return 0
}
