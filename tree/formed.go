package tree

import (
	"strings"

	"capstan/api"
	"capstan/lex"
	"capstan/scan"
)

// The runes that may not stand in a bracket's text, and in a quoted one.
const (
	notInBrackets = "[]\"\n"
	notInQuotes   = "\"\n"
)

// expression answers whether n is a formed expression.
func expression(n node) bool {
	switch n := n.(type) {
	case leaf:
		return n.formed()
	case single:
		return n.plain(api.KNeg, api.KFloor) && Formed(n.part)
	case double:
		return n.plain(api.KAdd, api.KEither) && Formed(n.first) && Formed(n.second)
	case triple:
		return n.plain(api.KIf, api.KIf) && Formed(n.first) && Formed(n.second) && Formed(n.third)
	}
	return false
}

// formed answers whether the leaf is a formed expression.
func (l leaf) formed() bool {
	switch l.kind {
	case api.KNum:
		return l.n >= 0 && l.m == 0 && textWithout(notInBrackets, l.text)
	case api.KName:
		return l.n == 0 && l.m == 0 && lex.IsName(l.text)
	case api.KCron:
		return l.n == 0 && l.m == 0 && textWithout(notInQuotes, l.text)
	case api.KSum, api.KAvg, api.KLow, api.KHigh, api.KCount:
		return l.m == 0 && span(l.n) && lex.IsName(l.text)
	case api.KRank:
		return l.m >= 0 && span(l.n) && lex.IsName(l.text)
	}
	return l.plain(api.KTrue, api.KReplicas)
}

// textWithout answers whether s is a text as a token may have it, without the runes of never.
func textWithout(never, s string) bool {
	count, _, errno := scan.Check(s)
	return errno == api.OK && count <= api.MaxText && !strings.ContainsAny(s, never)
}

func span(seconds int64) bool {
	return seconds >= 1 && seconds <= api.MaxSpan
}

// action answers whether n is a formed action.
func action(n node) bool {
	switch n := n.(type) {
	case leaf:
		return n.plain(api.KHold, api.KHold)
	case single:
		return n.plain(api.KTo, api.KBy) && Formed(n.part)
	case double: // a ladder without pairs
		return n.plain(api.KLadder, api.KLadder) && Formed(n.first) && Action(n.second)
	case many:
		return n.plain(api.KLadder, api.KLadder) && Formed(n.first) && pairs(n.between) && Action(n.last)
	}
	return false
}

// pairs answers whether the list is made of pairs of a formed literal and a formed action.
func pairs(list []api.Term) bool {
	if len(list)%2 != 0 {
		return false
	}
	for i := 0; i < len(list); i += 2 {
		if _, _, ok := literal(nodeOf(list[i])); !ok || !Action(list[i+1]) {
			return false
		}
	}
	return true
}

// literal answers the number of a formed literal, and -1 for one below 0, else 1; false, if n is no literal.
func literal(n node) (leaf, int64, bool) {
	sign := int64(1)
	if minus, ok := n.(single); ok && minus.plain(api.KNeg, api.KNeg) {
		n, sign = nodeOf(minus.part), -1
	}
	number, ok := n.(leaf)
	if !ok || number.kind != api.KNum || !number.formed() {
		return leaf{}, 0, false
	}
	return number, sign, true
}

// formedItem answers whether the item is formed: what it has is right, and all else that it could have is zero.
func formedItem(item api.Item) bool {
	right, rest := false, item
	switch item.Kind {
	case api.IMetric:
		right = lex.IsName(item.Name) && textWithout(notInBrackets, item.Unit)
		rest.Name, rest.Unit = "", ""
	case api.IReplicas:
		right = item.A >= 0 && item.B >= 0 && item.C >= 0
		rest.A, rest.B, rest.C = 0, 0, 0
	case api.IUp, api.IDown:
		right = span(item.A)
		rest.A = 0
	case api.ILet:
		right = lex.IsName(item.Name) && Formed(item.Term)
		rest.Name, rest.Term = "", api.Term{}
	case api.IGuard:
		right = Formed(item.Term) && Action(item.Then)
		rest.Term, rest.Then = api.Term{}, api.Term{}
	case api.IDecide:
		right = Action(item.Then)
		rest.Then = api.Term{}
	}
	return right && zeroItem(rest)
}

// zeroItem answers whether all fields of the item but its kind and its place are zero.
func zeroItem(item api.Item) bool {
	if item.Name != "" || item.Unit != "" || item.A != 0 || item.B != 0 || item.C != 0 {
		return false
	}
	return zeroTerm(item.Term) && zeroTerm(item.Then)
}

func zeroTerm(t api.Term) bool {
	return t.Kind == 0 && t.Text == "" && t.N == 0 && t.M == 0 && t.At == 0 && len(t.Parts) == 0
}

// endsWithDecide answers whether the last of the items, and no other, is IDecide.
func endsWithDecide(items []api.Item) bool {
	for i, item := range items {
		if item.Kind == api.IDecide {
			return i == len(items)-1
		}
	}
	return false
}

// fewNodes answers whether the terms that the items have are of at most MaxTokens nodes together.
func fewNodes(items []api.Item) bool {
	left := api.MaxTokens
	return all(items, func(item api.Item) bool {
		for _, t := range []api.Term{item.Term, item.Then} {
			if !zeroTerm(t) { // a zero one stands for none
				left -= Nodes(t)
			}
		}
		return left >= 0
	})
}
