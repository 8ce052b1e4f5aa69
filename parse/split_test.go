package parse

import (
	"slices"

	"capstan/api"
)

// The trees of tokens that are known to be right, by where they are to be split: at the sign that binds least and
// stands last, outside of all brackets.

// kinds are those of the terms that signs and words make.
var kinds = map[string]int{
	"or": api.KOr, "and": api.KAnd, "<": api.KLess, "<=": api.KLeq, "=": api.KEq, ">": api.KMore, ">=": api.KMeq, "+": api.KAdd, "-": api.KSub, "*": api.KMul, "/": api.KDiv,
	"not": api.KNot, "true": api.KTrue, "false": api.KFalse, "replicas": api.KReplicas, "if": api.KIf, "min": api.KMin, "max": api.KMax, "either": api.KEither, "abs": api.KAbs, "ceil": api.KCeil, "floor": api.KFloor,
	"sum": api.KSum, "avg": api.KAvg, "low": api.KLow, "high": api.KHigh, "count": api.KCount, "rank": api.KRank, "cron": api.KCron, "hold": api.KHold, "to": api.KTo, "by": api.KBy, "ladder": api.KLadder,
}

// says answers whether the token is one of these signs and words.
func says(token api.Token, texts ...string) bool {
	return (token.Kind == api.Sign || token.Kind == api.Word) && slices.Contains(texts, token.Text)
}

// outside answers the places of these signs and words that stand outside of all brackets.
func outside(l []api.Token, texts ...string) []int {
	var list []int
	depth := 0
	for i, token := range l {
		if says(token, "(", "{") {
			depth++
		}
		if says(token, ")", "}") {
			depth--
		}
		if depth == 0 && says(token, texts...) {
			list = append(list, i)
		}
	}
	return list
}

// splitAt answers the pieces between the tokens at these places.
func splitAt(l []api.Token, places []int) [][]api.Token {
	var list [][]api.Token
	from := 0
	for _, i := range places {
		list = append(list, l[from:i])
		from = i + 1
	}
	return append(list, l[from:])
}

// endsTerm answers whether a term ends with the token: then a - behind it stands between two.
func endsTerm(token api.Token) bool {
	return token.Kind == api.Name || token.Kind == api.Number || token.Kind == api.Bracket || says(token, ")", "true", "false", "replicas")
}

func plainExpr(l []api.Token) api.Term {
	for _, level := range [][]string{{"or"}, {"and"}, {"<", "<=", "=", ">", ">="}, {"+", "-"}, {"*", "/"}} {
		for _, i := range slices.Backward(outside(l, level...)) {
			if i > 0 && endsTerm(l[i-1]) {
				return api.Term{Kind: kinds[l[i].Text], At: l[i].At, Parts: []api.Term{plainExpr(l[:i]), plainExpr(l[i+1:])}}
			}
		}
	}
	first := l[0]
	t := api.Term{Kind: kinds[first.Text], At: first.At}
	switch {
	case first.Kind == api.Name:
		return api.Term{Kind: api.KName, Text: first.Text, At: first.At}
	case first.Kind == api.Number:
		t.Kind, t.N = api.KNum, first.N
		if len(l) == 2 {
			t.Text = l[1].Text
		}
	case says(first, "("):
		return plainExpr(l[1 : len(l)-1])
	case says(first, "-", "not"):
		t.Parts = []api.Term{plainExpr(l[1:])}
		if first.Text == "-" {
			t.Kind = api.KNeg
		}
	case says(first, "cron"):
		t.Text = l[2].Text
	case t.Kind >= api.KSum && t.Kind <= api.KRank:
		t.Text, t.N = l[2].Text, l[4].N
		if t.Kind == api.KRank {
			t.M = l[6].N
		}
	case t.Kind >= api.KAbs:
		inner := l[2 : len(l)-1]
		for _, part := range splitAt(inner, outside(inner, ",")) {
			t.Parts = append(t.Parts, plainExpr(part))
		}
	}
	return t
}

func plainAction(l []api.Token) api.Term {
	t := api.Term{Kind: kinds[l[0].Text], At: l[0].At}
	switch t.Kind {
	case api.KTo, api.KBy:
		t.Parts = []api.Term{plainExpr(l[1:])}
	case api.KLadder:
		open := slices.IndexFunc(l, func(token api.Token) bool { return says(token, "{") })
		t.Parts = []api.Term{plainExpr(l[1:open])}
		inner := l[open+1 : len(l)-1]
		for _, rung := range splitAt(inner, outside(inner, ",")) {
			two := splitAt(rung, outside(rung, ":"))
			if !says(two[0][0], "else") {
				t.Parts = append(t.Parts, plainExpr(two[0]))
			}
			t.Parts = append(t.Parts, plainAction(two[1]))
		}
	}
	return t
}

func plainPolicy(l []api.Token) api.Policy {
	p := api.Policy{Name: l[1].Text}
	for _, line := range splitAt(l, outside(l, ";"))[1:] {
		if len(line) > 0 { // behind the last ; nothing stands
			p.Items = append(p.Items, plainItem(line))
		}
	}
	return p
}

func plainItem(l []api.Token) api.Item {
	item := api.Item{At: l[0].At}
	switch l[0].Text {
	case "metric":
		item.Kind, item.Name = api.IMetric, l[1].Text
		if len(l) == 3 {
			item.Unit = l[2].Text
		}
	case "replicas":
		item.Kind, item.A, item.B = api.IReplicas, l[1].N, l[3].N
		if len(l) == 6 {
			item.C = l[5].N
		}
	case "cooldown":
		item.Kind, item.A = api.IUp, l[2].N
		if l[1].Text == "down" {
			item.Kind = api.IDown
		}
	case "let":
		item.Kind, item.Name, item.Term = api.ILet, l[1].Text, plainExpr(l[3:])
	case "guard":
		two := splitAt(l[1:], outside(l[1:], "then"))
		item.Kind, item.Term, item.Then = api.IGuard, plainExpr(two[0]), plainAction(two[1])
	case "decide":
		item.Kind, item.Then = api.IDecide, plainAction(l[1:])
	}
	return item
}
