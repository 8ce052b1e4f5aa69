package show

import (
	"math"
	"slices"
	"strings"
	"testing"

	"capstan/api"
)

// sum answers the sum of the parts, from the left.
func sum(parts ...api.Term) api.Term {
	x := parts[0]
	for _, part := range parts[1:] {
		x = of(api.KAdd, x, part)
	}
	return x
}

// long answers an expression of that many tokens, 1 or more: names, and a - ahead of the first, if it has to be.
func long(tokens int) api.Term {
	first := name("a")
	if tokens%2 == 0 {
		first = of(api.KNeg, first)
	}
	return sum(append([]api.Term{first}, slices.Repeat([]api.Term{name("a")}, (tokens-1)/2)...)...)
}

func TestP14_1Tokens(t *testing.T) {
	for _, tokens := range []int{1, 2, 3, 100, api.MaxTokens - 1, api.MaxTokens} {
		if own := taken(t, long(tokens)); own.tokens != tokens {
			t.Error(tokens, own)
		}
	}
	for _, tokens := range []int{1, 2, 3, 100, 5000, 100000} {
		refused(t, long(api.MaxTokens+tokens), api.ErrLarge)
	}
	x := name("a")
	for range 18 {
		x = of(api.KMin, x, x)
	}
	refused(t, x, api.ErrLarge)
}

func TestP14_1TokensOfEachKind(t *testing.T) {
	// Each kind as the last part of a text that has just room for it.
	for kind, x := range alone() {
		own := taken(t, of(api.KAdd, name("a"), x.term))
		room := api.MaxTokens - (own.tokens - 1)
		if whole := taken(t, of(api.KAdd, long(room), x.term)); whole.tokens != api.MaxTokens {
			t.Error(kind, whole)
		}
		refused(t, of(api.KAdd, long(room+1), x.term), api.ErrLarge)
		refused(t, of(api.KAdd, x.term, of(api.KAbs, long(room+1))), api.ErrLarge)
	}
	// A number's unit is a token of its own, and so is each sign and bracket about a part.
	for _, x := range []struct {
		term   api.Term
		tokens int
	}{
		{number(1500000, ""), 1}, {number(1500000, "s"), 2}, {of(api.KNeg, number(1, "s")), 3}, {of(api.KNeg, of(api.KNeg, name("a"))), 5}, {cron("a b c"), 4}, {over(api.KSum, "a", 90061, 0), 6},
		{over(api.KRank, "a", 90061, 1), 8}, {of(api.KIf, name("a"), name("b"), name("c")), 8}, {of(api.KMin, name("a"), name("b")), 6}, {of(api.KAbs, name("a")), 4}, {of(api.KMul, sum(name("a"), name("b")), name("c")), 7},
	} {
		if own := taken(t, x.term); own.tokens != x.tokens {
			t.Error(brief(x), own)
		}
		if own := taken(t, of(api.KMin, long(api.MaxTokens-4-x.tokens), x.term)); own.tokens != api.MaxTokens {
			t.Error(brief(x), own)
		}
		refused(t, of(api.KMin, long(api.MaxTokens-3-x.tokens), x.term), api.ErrLarge)
	}
}

// metrics answers lines of metrics with that many tokens together, 6 or more: three each, four with a unit.
func metrics(tokens int) []api.Item {
	var list []api.Item
	for ; tokens > 0; tokens -= 3 {
		item := api.Item{Kind: api.IMetric, Name: "a"}
		if tokens%3 != 0 {
			item.Unit = "s"
			tokens--
		}
		list = append(list, item)
	}
	return list
}

func TestP14_1TokensOfPolicies(t *testing.T) {
	end := decide(hold())
	const frame = 6 // of the policy's name and its end
	for item, tokens := range map[*api.Item]int{
		{Kind: api.IMetric, Name: "a"}:                                                     3,
		{Kind: api.IMetric, Name: "a", Unit: "s"}:                                          4,
		{Kind: api.IReplicas, A: 1, B: 1}:                                                  5,
		{Kind: api.IReplicas, A: 1500000, B: 1, C: 1}:                                      7,
		{Kind: api.IUp, A: 90061}:                                                          4,
		{Kind: api.IDown, A: 90061}:                                                        4,
		{Kind: api.ILet, Name: "x", Term: name("a")}:                                       5,
		{Kind: api.IGuard, Term: name("a"), Then: hold()}:                                  5,
		{Kind: api.IGuard, Term: less(), Then: ladders(1, hold())}:                         13,
		{Kind: api.IGuard, Term: name("a"), Then: ladders(2, of(api.KTo, number(1, "s")))}: 23,
		{Kind: api.IGuard, Term: name("a"), Then: of(api.KBy, of(api.KNeg, name("a")))}:    7,
	} {
		if own := policyTaken(t, policy(*item, end)); own.tokens != frame+tokens {
			t.Error(*item, own)
		}
		room := api.MaxTokens - frame - tokens
		if own := policyTaken(t, policy(append(metrics(room), *item, end)...)); own.tokens != api.MaxTokens {
			t.Error(*item, own)
		}
		policyRefused(t, policy(append(metrics(room+1), *item, end)...), api.ErrLarge)
		policyRefused(t, policy(append(metrics(room+2), *item, end)...), api.ErrLarge)
		policyRefused(t, policy(append([]api.Item{*item}, append(metrics(room+1), end)...)...), api.ErrLarge)
	}
	policyRefused(t, policy(append(metrics(100000), end)...), api.ErrLarge)
	for _, tokens := range []int{api.MaxTokens - 6, api.MaxTokens - 5} { // "policy p;", "decide to" and ";"
		p := policy(decide(of(api.KTo, long(tokens))))
		if tokens == api.MaxTokens-6 {
			if own := policyTaken(t, p); own.tokens != api.MaxTokens {
				t.Error(own)
			}
			continue
		}
		policyRefused(t, p, api.ErrLarge)
	}
}

// wide answers an expression of that many bytes, 300 or more, made of numbers with long units, and a name at its end.
func wide(bytes int) api.Term {
	unit := strings.Repeat("\U0010ffff", api.MaxText)
	one := number(api.One, unit) // 1[..]: of 259 bytes, and three more for the + behind it
	const each = 1 + 2 + 4*api.MaxText + 3
	count := bytes / each
	rest := bytes - count*each
	if rest <= 3 { // the last part needs a byte at least
		count, rest = count-1, rest+each
	}
	var last api.Term
	switch {
	case rest <= api.MaxName:
		last = name(strings.Repeat("a", rest))
	default:
		last = cronOf(rest)
	}
	return sum(append(slices.Repeat([]api.Term{one}, count), last)...)
}

// cronOf answers a schedule whose text has that many bytes, 8 to 264.
func cronOf(bytes int) api.Term {
	inner := bytes - len(`cron("")`)
	return cron(strings.Repeat("\U0010ffff", inner/4) + strings.Repeat("a", inner%4))
}

func TestP14_1Bytes(t *testing.T) {
	for _, bytes := range []int{300, 301, 5000, api.MaxSource - 300, api.MaxSource - 2, api.MaxSource - 1, api.MaxSource} {
		if own := taken(t, wide(bytes)); own.bytes != bytes || own.tokens > api.MaxTokens {
			t.Error(bytes, own)
		}
	}
	for _, more := range []int{1, 2, 3, 4, 100, 264, 1000, 100000} {
		refused(t, wide(api.MaxSource+more), api.ErrLong)
	}
}

func TestP14_1BytesOfPolicies(t *testing.T) {
	for _, line := range []api.Item{{Kind: api.IMetric, Name: strings.Repeat("é", 32), Unit: strings.Repeat("日", 64)}, {Kind: api.IReplicas, A: math.MaxInt64, B: math.MaxInt64, C: math.MaxInt64}} {
		for _, bytes := range []int{api.MaxSource - 1, api.MaxSource, api.MaxSource + 1, api.MaxSource + 2} {
			items := slices.Repeat([]api.Item{line}, 500)
			frame := func(x api.Term) api.Policy {
				return policy(append(items, api.Item{Kind: api.ILet, Name: "x", Term: x}, decide(hold()))...)
			}
			own := policyTaken(t, frame(wide(300)))
			p := frame(wide(300 + bytes - own.bytes))
			if bytes > api.MaxSource {
				policyRefused(t, p, api.ErrLong)
			} else if own := policyTaken(t, p); own.bytes != bytes {
				t.Error(bytes, own)
			}
		}
	}
}

func TestP14_1WhichErrorIsTold(t *testing.T) {
	deep, large, wide := brackets(65), long(api.MaxTokens+1), wide(api.MaxSource+1)
	// Of expressions: in each order of the parts, of two and of three faults.
	none := name("min")
	for errno, list := range map[api.Errno][][]api.Term{
		api.ErrForm:  {{none}, {none, deep}, {none, large}, {none, wide}, {none, deep, large}, {none, deep, wide}, {none, large, wide}, {none, deep, large, wide}},
		api.ErrDeep:  {{deep}, {deep, large}, {deep, wide}, {deep, large, wide}},
		api.ErrLarge: {{large}, {large, wide}},
		api.ErrLong:  {{wide}},
	} {
		for _, parts := range list {
			for range parts {
				parts = append(parts[1:], parts[0])
				refused(t, sum(parts...), errno)
				slices.Reverse(parts)
				refused(t, sum(parts...), errno)
				slices.Reverse(parts)
			}
		}
	}
}

func TestP14_1WhichErrorIsToldOfPolicies(t *testing.T) {
	let := func(x api.Term) api.Item { return api.Item{Kind: api.ILet, Name: "y", Term: x} }
	deep, wide := []api.Item{let(brackets(65))}, []api.Item{let(wide(api.MaxSource + 1))}
	large := metrics(api.MaxTokens - 5)
	none := []api.Item{{Kind: api.IMetric, Name: "min"}}
	for errno, list := range map[api.Errno][][][]api.Item{
		api.ErrForm:  {{none}, {none, deep}, {none, large}, {none, wide}, {none, deep, large, wide}},
		api.ErrDeep:  {{deep}, {deep, large}, {deep, wide}, {deep, large, wide}},
		api.ErrLarge: {{large}, {large, wide}},
		api.ErrLong:  {{wide}},
	} {
		for _, parts := range list {
			for range parts {
				parts = append(parts[1:], parts[0])
				policyRefused(t, policy(append(slices.Concat(parts...), decide(hold()))...), errno)
				slices.Reverse(parts)
				policyRefused(t, policy(append(slices.Concat(parts...), decide(hold()))...), errno)
				slices.Reverse(parts)
				policyRefused(t, policy(slices.Concat(parts...)...), api.ErrForm) // without an end
			}
		}
	}
	// A policy whose terms have more than MaxTokens nodes isn't formed; an expression of as many is only too large.
	many := let(long(api.MaxTokens + 1))
	refused(t, many.Term, api.ErrLarge)
	policyRefused(t, policy(many, decide(hold())), api.ErrForm)
	policyRefused(t, policy(many, deep[0], decide(hold())), api.ErrForm)
	policyRefused(t, policy(let(long(api.MaxTokens-1)), decide(hold())), api.ErrLarge)
}

func TestP14_1VeryDeepTrees(t *testing.T) {
	for _, kind := range []int{api.KNeg, api.KAbs} {
		x := name("a")
		for range 60000 {
			x = of(kind, x)
		}
		refused(t, x, api.ErrDeep)
		x = name("min")
		for range 60000 {
			x = of(kind, x)
		}
		refused(t, x, api.ErrForm)
	}
	policyRefused(t, policy(decide(ladders(5000, hold()))), api.ErrDeep)
	policyRefused(t, policy(decide(ladders(20000, hold()))), api.ErrForm)
}
