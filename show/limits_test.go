package show

import (
	"strings"
	"testing"

	"capstan/api"
	"capstan/lex"
	"capstan/parse"
	"capstan/tree"
)

// refused wants the error, and no text beside it.
func refused(t *testing.T, x api.Term, errno api.Errno) {
	t.Helper()
	if text, e := Expr(x); text != "" || e != errno {
		t.Errorf("Expr(%s) = %.100q (%d bytes), %d, wanted %d", brief(x), text, len(text), e, errno)
	}
}

// policyRefused wants the error, and no text beside it.
func policyRefused(t *testing.T, p api.Policy, errno api.Errno) {
	t.Helper()
	if text, e := Policy(p); text != "" || e != errno {
		t.Errorf("Policy(%s) = %.100q (%d bytes), %d, wanted %d", brief(p), text, len(text), e, errno)
	}
}

// size is what the limits are about.
type size struct {
	depth, tokens, bytes int
}

// sizeOf reckons the size of a text by its tokens.
func sizeOf(t *testing.T, text string) size {
	t.Helper()
	tokens, at, errno := lex.Cut(text)
	if errno != api.OK {
		t.Fatalf("%.200q: %d, %d", text, at, errno)
	}
	own, open := size{tokens: len(tokens) - 1, bytes: len(text)}, 0
	for _, token := range tokens {
		if token.Kind == api.Sign && strings.Contains("({", token.Text) {
			open++
			own.depth = max(own.depth, open)
		}
		if token.Kind == api.Sign && strings.Contains(")}", token.Text) {
			open--
		}
	}
	return own
}

// taken wants that the expression is told and read back; it answers the size of its text.
func taken(t *testing.T, x api.Term) size {
	t.Helper()
	text, errno := Expr(x)
	if errno != api.OK {
		t.Fatalf("Expr(%s): %d", brief(x), errno)
	}
	if read, at, errno := parse.Expr(text); errno != api.OK || !tree.Same(read, x) {
		t.Errorf("%.200q is read otherwise: %d, %d", text, at, errno)
	}
	return sizeOf(t, text)
}

// policyTaken wants that the policy is told and read back; it answers the size of its text.
func policyTaken(t *testing.T, p api.Policy) size {
	t.Helper()
	text, errno := Policy(p)
	if errno != api.OK {
		t.Fatalf("Policy(%s): %d", brief(p), errno)
	}
	if read, at, errno := parse.Policy(text); errno != api.OK || !tree.SamePolicy(read, p) {
		t.Errorf("%.200q is read otherwise: %d, %d", text, at, errno)
	}
	return sizeOf(t, text)
}

// nests answers ways to put a term, of level 3, into one more bracket; what comes of it is of level 3 again.
func nests() []func(api.Term) api.Term {
	x := name("x")
	calm := func(t api.Term) api.Term { return of(api.KLess, t, x) } // brings what has level 7 down to 3, without a bracket
	list := []func(api.Term) api.Term{
		func(t api.Term) api.Term { return of(api.KLess, t, x) },
		func(t api.Term) api.Term { return of(api.KMeq, x, t) },
		func(t api.Term) api.Term { return of(api.KEq, of(api.KNeg, t), x) },
		func(t api.Term) api.Term { return of(api.KEq, x, of(api.KNot, t)) },
		func(t api.Term) api.Term { return of(api.KLeq, of(api.KAdd, t, x), x) },
		func(t api.Term) api.Term { return of(api.KLeq, x, of(api.KSub, x, t)) },
		func(t api.Term) api.Term { return of(api.KMore, of(api.KMul, x, t), x) },
		func(t api.Term) api.Term { return of(api.KMore, of(api.KDiv, t, x), of(api.KAbs, x)) },
		func(t api.Term) api.Term { return calm(of(api.KIf, t, x, x)) },
		func(t api.Term) api.Term { return calm(of(api.KIf, x, t, x)) },
		func(t api.Term) api.Term { return calm(of(api.KIf, x, x, t)) },
	}
	for _, kind := range []int{api.KAbs, api.KCeil, api.KFloor} {
		list = append(list, func(t api.Term) api.Term { return calm(of(kind, t)) })
	}
	for _, kind := range []int{api.KMin, api.KMax, api.KEither} {
		list = append(list, func(t api.Term) api.Term { return calm(of(kind, t, x)) }, func(t api.Term) api.Term { return calm(of(kind, x, t)) })
	}
	return list
}

// less is of level 3, without a bracket.
func less() api.Term {
	return of(api.KLess, name("a"), name("b"))
}

// nested answers the term in that many brackets, made by the ways one behind the other.
func nested(ways []func(api.Term) api.Term, count int, t api.Term) api.Term {
	for i := range count {
		t = ways[i%len(ways)](t)
	}
	return t
}

// brackets answers an expression with that many brackets open at once.
func brackets(count int) api.Term {
	return nested(nests(), count, less())
}

func TestP14_1Depth(t *testing.T) {
	for i, way := range append(nests(), nil) {
		ways := []func(api.Term) api.Term{way}
		if way == nil {
			ways = nests()
		}
		for _, count := range []int{0, 1, 2, 63, 64} {
			if own := taken(t, nested(ways, count, less())); own.depth != count {
				t.Error(i, count, own)
			}
		}
		for _, count := range []int{65, 66, 100, 1000} {
			refused(t, nested(ways, count, less()), api.ErrDeep)
		}
		// A call without parts that are expressions has a bracket too.
		for _, leaf := range []api.Term{cron(""), cron("(((("), over(api.KSum, "a", 1, 0), over(api.KAvg, "a", 1, 0), over(api.KLow, "a", 1, 0), over(api.KHigh, "a", 1, 0), over(api.KCount, "a", 1, 0), over(api.KRank, "a", 1, 0)} {
			inner := of(api.KLess, leaf, name("x"))
			if own := taken(t, nested(ways, 63, inner)); own.depth != 64 {
				t.Error(i, own)
			}
			refused(t, nested(ways, 64, inner), api.ErrDeep)
		}
		// Brackets in texts are none, nor are those of units.
		if own := taken(t, nested(ways, 64, of(api.KLess, number(1, "({("), name("x")))); own.depth != 64 {
			t.Error(i, own)
		}
	}
}

func TestP14_1DepthOfSignsWithinThemselves(t *testing.T) {
	for kind, told := range map[int]string{api.KNeg: "-(", api.KNot: "not ("} {
		x, text := of(kind, name("a")), strings.TrimSuffix(told, "(")+"a"
		for range 64 {
			x, text = of(kind, x), told+text+")"
		}
		shows(t, x, text)
		refused(t, of(kind, x), api.ErrDeep)
		refused(t, of(kind, of(kind, x)), api.ErrDeep)
	}
	for _, kind := range []int{api.KAdd, api.KSub, api.KMul, api.KDiv, api.KAnd, api.KOr, api.KLess, api.KLeq, api.KEq, api.KMore, api.KMeq} {
		x := of(kind, name("a"), name("b"))
		for range 64 {
			x = of(kind, name("a"), x)
		}
		if own := taken(t, x); own.depth != 64 {
			t.Error(kind, own)
		}
		refused(t, of(kind, name("a"), x), api.ErrDeep)
	}
	for _, kind := range []int{api.KAdd, api.KSub, api.KMul, api.KDiv, api.KAnd, api.KOr} { // from the left no brackets are needed
		x := name("a")
		for range 4000 {
			x = of(kind, x, name("a"))
		}
		if own := taken(t, x); own.depth != 0 || own.tokens != 8001 {
			t.Error(kind, own)
		}
	}
}

func TestP14_1ManyBracketsOneBehindTheOther(t *testing.T) {
	x := brackets(64)
	for range 20 {
		x = of(api.KOr, x, brackets(64))
	}
	if own := taken(t, x); own.depth != 64 {
		t.Error(own)
	}
	refused(t, of(api.KOr, x, brackets(65)), api.ErrDeep)
	refused(t, of(api.KOr, brackets(65), x), api.ErrDeep)
	refused(t, of(api.KAnd, brackets(10), of(api.KAnd, brackets(64), brackets(10))), api.ErrDeep)
}

// ladders answers that many ladders within each other, in rungs and behind else, about the action.
func ladders(count int, inner api.Term) api.Term {
	for i := range count {
		if i%2 == 0 {
			inner = of(api.KLadder, name("x"), inner)
		} else {
			inner = of(api.KLadder, name("x"), number(0, ""), inner, hold())
		}
	}
	return inner
}

func TestP14_1DepthOfPolicies(t *testing.T) {
	end := decide(hold())
	for count, ok := range map[int]bool{1: true, 63: true, 64: true, 65: false, 66: false, 500: false} {
		deep := brackets(count)
		for i, p := range []api.Policy{
			policy(api.Item{Kind: api.ILet, Name: "y", Term: deep}, end),
			policy(api.Item{Kind: api.IGuard, Term: deep, Then: hold()}, end),
			policy(api.Item{Kind: api.IGuard, Term: name("a"), Then: of(api.KTo, deep)}, end),
			policy(api.Item{Kind: api.IGuard, Term: name("a"), Then: ladders(count, hold())}, end),
			policy(decide(of(api.KTo, deep))), policy(decide(of(api.KBy, deep))),
			policy(decide(ladders(count, hold()))),
			// What a ladder asks stands ahead of its bracket, an action within it.
			policy(decide(of(api.KLadder, deep, hold()))),
			policy(decide(ladders(1, of(api.KTo, brackets(count-1))))),
			policy(decide(ladders(count-1, of(api.KLadder, name("x"), number(0, ""), hold(), of(api.KBy, name("a")))))),
			policy(decide(ladders(count/2, of(api.KBy, brackets(count-count/2))))),
			policy(decide(ladders(count/2, of(api.KLadder, brackets(count-count/2), hold())))),
		} {
			if !ok {
				policyRefused(t, p, api.ErrDeep)
			} else if own := policyTaken(t, p); own.depth != count {
				t.Error(i, count, own)
			}
		}
	}
	many := []api.Item{}
	for range 15 {
		many = append(many, api.Item{Kind: api.ILet, Name: "y", Term: brackets(64)}, api.Item{Kind: api.IGuard, Term: name("a"), Then: ladders(64, hold())})
	}
	if own := policyTaken(t, policy(append(many, end)...)); own.depth != 64 {
		t.Error(own)
	}
	policyRefused(t, policy(append(many, decide(ladders(65, hold())))...), api.ErrDeep)
}
