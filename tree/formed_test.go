package tree

import (
	"math"
	"slices"
	"strings"
	"testing"

	"capstan/api"
)

func num(n int64, unit string) api.Term {
	return api.Term{Kind: api.KNum, N: n, Text: unit}
}

func name(text string) api.Term {
	return api.Term{Kind: api.KName, Text: text}
}

func of(kind int, parts ...api.Term) api.Term {
	return api.Term{Kind: kind, Parts: parts}
}

// arity answers how many parts an expression of the kind has, as api's remarks say.
func arity(kind int) int {
	switch {
	case kind <= api.KRank:
		return 0
	case kind <= api.KFloor:
		return 1
	case kind <= api.KEither:
		return 2
	}
	return 3
}

// whole answers a formed term of the kind, 1 to 36, with a place of its own in each node.
func whole(kind int) api.Term {
	t := api.Term{Kind: kind, At: 40 + kind}
	switch kind {
	case api.KNum:
		t.N, t.Text = 1500000, "req/s"
	case api.KName:
		t.Text = "cpu"
	case api.KTrue, api.KFalse, api.KReplicas, api.KHold:
	case api.KCron:
		t.Text = "0 3 * * *"
	case api.KSum, api.KAvg, api.KLow, api.KHigh, api.KCount, api.KRank:
		t.Text, t.N = "cpu", 60
		if kind == api.KRank {
			t.M = 95000000
		}
	case api.KTo, api.KBy:
		t.Parts = []api.Term{whole(api.KName)}
	case api.KLadder:
		t.Parts = []api.Term{whole(api.KName), whole(api.KNum), whole(api.KHold), of(api.KNeg, whole(api.KNum)), whole(api.KTo), whole(api.KBy)}
	default:
		for i := range arity(kind) {
			t.Parts = append(t.Parts, whole(i+1))
		}
	}
	return t
}

// formed wants that t is a formed expression, and no action.
func formed(t *testing.T, x api.Term) {
	t.Helper()
	if !Formed(x) || Action(x) {
		t.Errorf("%.300v: %t, %t, wanted a formed expression", x, Formed(x), Action(x))
	}
}

// formedAction wants that t is a formed action, and no expression.
func formedAction(t *testing.T, x api.Term) {
	t.Helper()
	if Formed(x) || !Action(x) {
		t.Errorf("%.300v: %t, %t, wanted a formed action", x, Formed(x), Action(x))
	}
}

// unformed wants that t is neither, and can't be opened.
func unformed(t *testing.T, x api.Term) {
	t.Helper()
	if Formed(x) || Action(x) {
		t.Errorf("%.300v: %t, %t, wanted neither", x, Formed(x), Action(x))
	}
	if list, errno := Open(x, x.Kind); len(list) != 0 || errno != api.ErrForm {
		t.Errorf("Open(%.300v) = %v, %d", x, list, errno)
	}
	if n, unit, ok := Literal(x); n != 0 || unit != "" || ok {
		t.Errorf("Literal(%.300v) = %d, %q, %t", x, n, unit, ok)
	}
}

// with answers t with another part in the place i.
func with(t api.Term, i int, part api.Term) api.Term {
	t.Parts = slices.Clone(t.Parts)
	t.Parts[i] = part
	return t
}

// without answers t without the part i.
func without(t api.Term, i int) api.Term {
	t.Parts = slices.Delete(slices.Clone(t.Parts), i, i+1)
	return t
}

// more answers t with one more part, in the place i.
func more(t api.Term, i int, part api.Term) api.Term {
	t.Parts = slices.Insert(slices.Clone(t.Parts), i, part)
	return t
}

// changed answers t as change makes it.
func changed(t api.Term, change func(*api.Term)) api.Term {
	change(&t)
	return t
}

func TestP12_1Examples(t *testing.T) {
	five := num(5, "pct")
	formed(t, five)
	formed(t, of(api.KNeg, five))
	formed(t, of(api.KAdd, five, five))
	formed(t, of(api.KIf, five, five, five))
	unformed(t, num(-1, ""))
	unformed(t, name("min"))
	unformed(t, of(api.KAdd, five))
	unformed(t, api.Term{Kind: api.KTrue, N: 1})
	unformed(t, api.Term{Kind: api.KSum, Text: "cpu"})
	formedAction(t, of(api.KTo, five))
}

func TestP12_1EachKind(t *testing.T) {
	for kind := api.KNum; kind <= api.KIf; kind++ {
		formed(t, whole(kind))
	}
	for kind := api.KHold; kind <= api.KLadder; kind++ {
		formedAction(t, whole(kind))
	}
}

func TestP12_1KindsThatAreNone(t *testing.T) {
	for _, kind := range []int{0, -1, -32, 37, 38, 64, 100, math.MaxInt, math.MinInt, 1 << 32, 1<<32 + 1, 1<<8 + 3} {
		for _, like := range []int{api.KNum, api.KName, api.KTrue, api.KRank, api.KNeg, api.KAdd, api.KIf, api.KHold, api.KTo, api.KLadder} {
			x := whole(like)
			x.Kind = kind
			unformed(t, x)
			unformed(t, of(api.KAbs, x))
			unformed(t, of(api.KTo, x))
		}
	}
	unformed(t, api.Term{})
}

func TestP12_1OfAnotherKind(t *testing.T) {
	for from := api.KNum; from <= api.KLadder; from++ {
		for to := api.KNum; to <= api.KLadder; to++ {
			x := whole(from)
			x.Kind = to
			if Formed(x) != plainFormed(x) || Action(x) != plainAction(x) {
				t.Errorf("%d as %d: %t, %t", from, to, Formed(x), Action(x))
			}
		}
	}
	formed(t, changed(whole(api.KTo), func(x *api.Term) { x.Kind = api.KAbs }))
	formed(t, changed(whole(api.KHold), func(x *api.Term) { x.Kind = api.KTrue }))
	formed(t, changed(whole(api.KRank), func(x *api.Term) { x.Kind, x.M = api.KSum, 0 }))
	formedAction(t, changed(whole(api.KNot), func(x *api.Term) { x.Kind = api.KBy }))
	formedAction(t, changed(whole(api.KReplicas), func(x *api.Term) { x.Kind = api.KHold }))
	formedAction(t, of(api.KLadder, name("a"), of(api.KHold)))
	unformed(t, of(api.KAdd, name("a"), of(api.KHold)))
	unformed(t, changed(whole(api.KRank), func(x *api.Term) { x.Kind = api.KSum }))
	unformed(t, changed(whole(api.KIf), func(x *api.Term) { x.Kind = api.KAdd }))
	unformed(t, changed(whole(api.KAdd), func(x *api.Term) { x.Kind = api.KIf }))
	unformed(t, changed(whole(api.KAdd), func(x *api.Term) { x.Kind = api.KNeg }))
	unformed(t, changed(whole(api.KNeg), func(x *api.Term) { x.Kind = api.KTrue }))
}

func TestP12_1APartMoreOrLess(t *testing.T) {
	for kind := api.KNum; kind <= api.KBy; kind++ {
		x := whole(kind)
		for i := range len(x.Parts) + 1 {
			for _, part := range []api.Term{{}, whole(api.KNum), whole(api.KName), whole(api.KHold), whole(api.KAdd)} {
				unformed(t, more(x, i, part))
				unformed(t, more(more(x, i, part), i, part))
				unformed(t, more(more(more(x, i, part), i, part), i, part))
			}
			if i < len(x.Parts) {
				unformed(t, without(x, i))
			}
		}
		if len(x.Parts) > 0 {
			unformed(t, changed(x, func(x *api.Term) { x.Parts = nil }))
			unformed(t, changed(x, func(x *api.Term) { x.Parts = []api.Term{} }))
		} else {
			x.Parts = []api.Term{}
			if Formed(x) != (kind <= api.KIf) || Action(x) != (kind == api.KHold) {
				t.Error(kind)
			}
		}
	}
}

func TestP12_1APartThatIsNot(t *testing.T) {
	wrong := []api.Term{{}, num(-1, ""), num(1, "["), name(""), name("to"), {Kind: 37}, whole(api.KHold), whole(api.KTo), whole(api.KLadder), of(api.KAdd, num(1, "")), of(api.KNeg), of(api.KNot, num(-1, "")),
		of(api.KIf, name("a"), name("b"), of(api.KBy, name("c"))), {Kind: api.KTrue, M: 1}, {Kind: api.KSum, Text: "a", N: 0}}
	for kind := api.KNeg; kind <= api.KBy; kind++ {
		x := whole(kind)
		for i := range x.Parts {
			for _, part := range wrong {
				unformed(t, with(x, i, part))
				deep := with(x, i, of(api.KAbs, of(api.KMin, name("a"), of(api.KIf, name("a"), part, name("b")))))
				unformed(t, deep)
			}
		}
	}
}

func TestP12_1EveryPartOfEveryKind(t *testing.T) {
	for kind := api.KNeg; kind <= api.KIf; kind++ {
		for i := range arity(kind) {
			for part := api.KNum; part <= api.KIf; part++ {
				formed(t, with(whole(kind), i, whole(part)))
			}
		}
	}
	for part := api.KNum; part <= api.KIf; part++ {
		formedAction(t, of(api.KTo, whole(part)))
		formedAction(t, of(api.KBy, whole(part)))
	}
}

func TestP12_1FieldsThatItMayNotHave(t *testing.T) {
	changes := map[string]func(*api.Term){
		"Text": func(x *api.Term) { x.Text = "cpu" },
		"N":    func(x *api.Term) { x.N = 60 },
		"-N":   func(x *api.Term) { x.N = -60 },
		"M":    func(x *api.Term) { x.M = 1 },
		"-M":   func(x *api.Term) { x.M = -1 },
	}
	may := func(kind int, field string) bool {
		switch {
		case kind == api.KNum:
			return field == "Text" || field == "N"
		case kind == api.KName, kind == api.KCron:
			return field == "Text"
		case kind >= api.KSum && kind <= api.KCount:
			return field == "Text" || field == "N"
		case kind == api.KRank:
			return field == "Text" || field == "N" || field == "M"
		}
		return false
	}
	for kind := api.KNum; kind <= api.KLadder; kind++ {
		for field, change := range changes {
			x := changed(whole(kind), change)
			if may(kind, field) {
				formed(t, x)
			} else {
				unformed(t, x)
			}
		}
		unformedTexts(t, kind)
	}
}

// unformedTexts wants that no text will do for a kind that has none.
func unformedTexts(t *testing.T, kind int) {
	t.Helper()
	if kind <= api.KName || kind >= api.KCron && kind <= api.KRank {
		return
	}
	for _, text := range []string{" ", "a", "pct", "0", "\x00", "\xff", "é", "min"} {
		unformed(t, changed(whole(kind), func(x *api.Term) { x.Text = text }))
	}
}

func TestP12_1AnyPlace(t *testing.T) {
	for kind := api.KNum; kind <= api.KLadder; kind++ {
		for _, at := range []int{0, 1, -1, math.MaxInt, math.MinInt} {
			x := whole(kind)
			x.At = at
			for i := range x.Parts {
				x.Parts[i].At = -at
			}
			if Formed(x) != (kind <= api.KIf) || Action(x) != (kind > api.KIf) {
				t.Error(kind, at)
			}
		}
	}
}

func TestP12_1BoundsOfNumbers(t *testing.T) {
	for _, n := range []int64{0, 1, 999999, api.One, math.MaxInt64 - 1, math.MaxInt64} {
		formed(t, num(n, ""))
		formed(t, api.Term{Kind: api.KRank, Text: "a", N: 1, M: n})
		unformed(t, num(-n-1, ""))
		unformed(t, api.Term{Kind: api.KRank, Text: "a", N: 1, M: -n - 1})
		for kind := api.KTrue; kind <= api.KLadder; kind++ {
			if kind != api.KRank {
				unformed(t, changed(whole(kind), func(x *api.Term) { x.M = n + 1 })) // wraps round once, to the least
			}
		}
	}
	for kind := api.KSum; kind <= api.KRank; kind++ {
		for _, n := range []int64{1, 2, 60, 86400, 604799, 604800} {
			formed(t, api.Term{Kind: kind, Text: "a", N: n})
		}
		for _, n := range []int64{0, -1, -604800, 604801, 604802, 1 << 32, 1<<32 + 1, math.MaxInt64, math.MinInt64} {
			unformed(t, api.Term{Kind: kind, Text: "a", N: n})
		}
	}
}

// manyTexts are texts at the edges, by whether they may stand in brackets and in quotation marks.
func manyTexts() (both, quoted, none []string) {
	both = []string{"", " ", "a", "req/s", "é", "日本", "#", "\t", "\r", "a\rb", "\\", "'", ";", "{", "}", "(", "min", "01", "\u00a0", "\u2028", "\ufffd", "\U0001f600", "\U0010ffff", "\ufefe", "\uff00", "~", "\u00a1",
		strings.Repeat("a", 63), strings.Repeat("a", 64), strings.Repeat("é", 64), strings.Repeat("日", 64), strings.Repeat("\U0001f600", 64), strings.Repeat("\ufffd", 64), strings.Repeat("\t", 64)}
	quoted = []string{"[", "]", "[]", "a[b", "a]b", "[x]", strings.Repeat("[", 64), strings.Repeat("a", 63) + "]", "é[", "]é"}
	for _, x := range []string{"\"", "\n", "\x00", "\x01", "\x08", "\x0b", "\x0c", "\x0e", "\x1f", "\x7f", "\u0080", "\u0085", "\u009f", "\ufeff", "\xff", "\x80", "\xc3", "\xc0\x80", "\xed\xa0\x80", "\xf4\x90\x80\x80", "\xe6\x97"} {
		none = append(none, x, x+"a", "a"+x, "é"+x+"日", strings.Repeat("a", 63)+x, x+x)
	}
	for _, x := range []string{"a", "é", "日", "\U0001f600", " ", "[", "]"} {
		none = append(none, strings.Repeat(x, 65), strings.Repeat(x, 66), strings.Repeat(x, 256), strings.Repeat(x, 1<<16))
	}
	return both, quoted, none
}

func TestP12_1TextsOfBracketsAndQuotes(t *testing.T) {
	both, quoted, none := manyTexts()
	end := api.Item{Kind: api.IDecide, Then: of(api.KHold)}
	check := func(text string, bracket, quote bool) {
		if Formed(num(1, text)) != bracket {
			t.Errorf("unit %.90q", text)
		}
		if Formed(api.Term{Kind: api.KCron, Text: text}) != quote {
			t.Errorf("cron %.90q", text)
		}
		metric := api.Item{Kind: api.IMetric, Name: "cpu", Unit: text}
		if Policy(api.Policy{Name: "p", Items: []api.Item{metric, end}}) != bracket {
			t.Errorf("metric %.90q", text)
		}
	}
	for _, text := range both {
		check(text, true, true)
	}
	for _, text := range quoted {
		check(text, false, true)
	}
	for _, text := range none {
		check(text, false, false)
	}
}

func TestP12_1Names(t *testing.T) {
	good := []string{"a", "cpu", "_", "é", "a1", "Min", "policy1", "ɏ", "À", strings.Repeat("a", 32), strings.Repeat("é", 32)}
	bad := []string{"", " ", "1", "1a", "a b", "a-b", "a.b", "[a]", "é×", "日", "\xff", "a\xff", "a\x00", "a\n", strings.Repeat("a", 33), strings.Repeat("é", 33)}
	bad = append(bad, strings.Fields("policy metric replicas step cooldown up down let guard then decide hold to by ladder else or and not true false if min max either abs ceil floor sum avg low high count rank cron")...)
	check := func(text string, want bool) {
		if Formed(name(text)) != want {
			t.Errorf("%q", text)
		}
		for kind := api.KSum; kind <= api.KRank; kind++ {
			if Formed(api.Term{Kind: kind, Text: text, N: 1}) != want {
				t.Errorf("%d of %q", kind, text)
			}
		}
		end := api.Item{Kind: api.IDecide, Then: of(api.KHold)}
		for _, p := range []api.Policy{
			{Name: text, Items: []api.Item{end}},
			{Name: "p", Items: []api.Item{{Kind: api.IMetric, Name: text}, end}},
			{Name: "p", Items: []api.Item{{Kind: api.ILet, Name: text, Term: of(api.KTrue)}, end}},
		} {
			if Policy(p) != want {
				t.Errorf("policy, metric or let %q", text)
			}
		}
	}
	for _, text := range good {
		check(text, true)
	}
	for _, text := range bad {
		check(text, false)
	}
}

// ladder answers a ladder with that many pairs.
func ladder(pairs int) api.Term {
	x := of(api.KLadder, whole(api.KAvg))
	for i := range pairs {
		bound := num(int64(i), "pct")
		if i%2 == 1 {
			bound = of(api.KNeg, bound)
		}
		x.Parts = append(x.Parts, bound, whole(api.KHold+i%3))
	}
	x.Parts = append(x.Parts, whole(api.KBy))
	return x
}

func TestP12_1Ladders(t *testing.T) {
	for _, pairs := range []int{0, 1, 2, 3, 4, 5, 10, 100, 5000} {
		x := ladder(pairs)
		formedAction(t, x)
		for _, i := range []int{0, 1, len(x.Parts) / 2, len(x.Parts) - 1} {
			unformed(t, without(x, i))
			unformed(t, more(x, i, num(1, "")))
			unformed(t, more(x, i, of(api.KHold)))
		}
	}
	unformed(t, of(api.KLadder))
	unformed(t, of(api.KLadder, name("a")))
	unformed(t, of(api.KLadder, of(api.KHold)))
	unformed(t, of(api.KLadder, of(api.KHold), of(api.KHold)))
	unformed(t, of(api.KLadder, name("a"), name("b")))
	unformed(t, of(api.KLadder, name("a"), num(1, "")))
	unformed(t, of(api.KLadder, name("a"), num(1, ""), of(api.KHold)))
	unformed(t, of(api.KLadder, name("a"), of(api.KHold), num(1, ""), of(api.KHold)))
	formedAction(t, of(api.KLadder, name("a"), num(1, ""), of(api.KHold), of(api.KHold)))
	formedAction(t, of(api.KLadder, num(1, ""), num(1, ""), of(api.KHold), of(api.KHold)))
}

func TestP12_1LaddersWithAPartBroken(t *testing.T) {
	x := ladder(4)
	noExpression := []api.Term{{}, of(api.KHold), of(api.KTo, name("a")), ladder(1), num(-1, ""), of(api.KAdd, num(1, "")), name("min")}
	noAction := []api.Term{{}, num(1, ""), name("a"), of(api.KTrue), of(api.KNeg, num(1, "")), of(api.KTo), of(api.KBy, of(api.KHold)), of(api.KHold, name("a")), {Kind: api.KHold, N: 1}, {Kind: api.KHold, Text: "a"}, of(api.KLadder), of(api.KTo, num(-1, ""))}
	noLiteral := append([]api.Term{name("a"), of(api.KTrue), of(api.KNeg), of(api.KNeg, name("a")), of(api.KNeg, of(api.KNeg, num(1, ""))), of(api.KAbs, num(1, "")), of(api.KAdd, num(1, ""), num(1, "")), of(api.KNeg, num(-1, "")), of(api.KNeg, num(1, "["))}, noExpression...)
	noLiteral = append(noLiteral, api.Term{Kind: api.KNeg, N: 1, Parts: []api.Term{num(1, "")}}, api.Term{Kind: api.KNeg, Text: "s", Parts: []api.Term{num(1, "")}}, of(api.KNeg, num(1, ""), num(1, "")), of(api.KNum, num(1, "")))
	last := len(x.Parts) - 1
	for i := range x.Parts {
		wrong := noAction
		switch {
		case i == 0:
			wrong = noExpression
		case i < last && i%2 == 1:
			wrong = noLiteral
		}
		for _, part := range wrong {
			unformed(t, with(x, i, part))
			unformed(t, with(x, last, with(x, i, part))) // a ladder in a ladder
			unformed(t, with(x, 2, with(x, i, part)))
		}
	}
}

func TestP12_1LaddersWithinLadders(t *testing.T) {
	x := ladder(2)
	for range 100 {
		x = with(with(ladder(2), 2, ladder(1)), 5, x)
		formedAction(t, x)
	}
	y := of(api.KHold)
	for range 1000 {
		y = of(api.KLadder, name("a"), num(1, ""), y, of(api.KHold))
	}
	formedAction(t, y)
	unformed(t, of(api.KAbs, y))
	unformed(t, of(api.KTo, y))
}

// deep answers a chain of that many nodes.
func deep(nodes int, last api.Term) api.Term {
	for range nodes - 1 {
		last = of(api.KNeg, last)
	}
	return last
}

// wide answers a balanced tree of that many nodes, an odd number.
func wide(nodes int) api.Term {
	if nodes < 3 {
		return name("a")
	}
	first := (nodes - 1) / 2
	if first%2 == 0 {
		first++
	}
	return of(api.KAdd, wide(first), wide(nodes-1-first))
}

func TestP12_1LargeTrees(t *testing.T) {
	// The number of nodes binds a policy, not an expression or an action by itself.
	for _, nodes := range []int{api.MaxTokens, api.MaxTokens + 1, 1 << 16} {
		formed(t, deep(nodes, name("a")))
		unformed(t, deep(nodes, num(-1, "")))
		formedAction(t, of(api.KTo, deep(nodes-1, name("a"))))
		formed(t, wide(nodes|1))
		unformed(t, of(api.KAdd, wide(nodes|1), of(api.KHold)))
	}
	formedAction(t, ladder(api.MaxTokens))
	y := of(api.KHold)
	for range 1<<16 - 1 {
		y = of(api.KLadder, name("a"), y)
	}
	formedAction(t, y)
	flat := of(api.KAdd)
	flat.Parts = make([]api.Term, 1<<20)
	unformed(t, flat)
}

// wholeItem answers a formed item of the kind.
func wholeItem(kind int) api.Item {
	item := api.Item{Kind: kind, At: 70 + kind}
	switch kind {
	case api.IMetric:
		item.Name, item.Unit = "cpu", "pct"
	case api.IReplicas:
		item.A, item.B, item.C = 1000000, 9000000, 2000000
	case api.IUp, api.IDown:
		item.A = 30
	case api.ILet:
		item.Name, item.Term = "x", whole(api.KAdd)
	case api.IGuard:
		item.Term, item.Then = whole(api.KLess), whole(api.KTo)
	case api.IDecide:
		item.Then = whole(api.KLadder)
	}
	return item
}

// policy answers a policy of these items, and IDecide behind them.
func policy(items ...api.Item) api.Policy {
	return api.Policy{Name: "web", Items: append(items[:len(items):len(items)], wholeItem(api.IDecide))}
}

// item asks whether the item is formed: within a policy, since it can't be asked alone.
func item(x api.Item) bool {
	if x.Kind == api.IDecide {
		return Policy(api.Policy{Name: "web", Items: []api.Item{x}})
	}
	return Policy(policy(x))
}

// itemChanges set one field of an item each, to what isn't zero.
func itemChanges() map[string]func(*api.Item) {
	return map[string]func(*api.Item){
		"Name":       func(x *api.Item) { x.Name = "a" },
		"Unit":       func(x *api.Item) { x.Unit = "s" },
		"A":          func(x *api.Item) { x.A = 1 },
		"B":          func(x *api.Item) { x.B = 1 },
		"C":          func(x *api.Item) { x.C = 1 },
		"Term":       func(x *api.Item) { x.Term = of(api.KTrue) },
		"Then":       func(x *api.Item) { x.Then = of(api.KHold) },
		"Term.Text":  func(x *api.Item) { x.Term = api.Term{Text: "a"} },
		"Term.N":     func(x *api.Item) { x.Term = api.Term{N: 1} },
		"Term.M":     func(x *api.Item) { x.Term = api.Term{M: -1} },
		"Term.At":    func(x *api.Item) { x.Term = api.Term{At: 1} },
		"Term.Parts": func(x *api.Item) { x.Term = api.Term{Parts: []api.Term{{}}} },
		"Then.Text":  func(x *api.Item) { x.Then = api.Term{Text: "a"} },
		"Then.N":     func(x *api.Item) { x.Then = api.Term{N: -1} },
		"Then.M":     func(x *api.Item) { x.Then = api.Term{M: 1} },
		"Then.At":    func(x *api.Item) { x.Then = api.Term{At: 1} },
		"Then.Parts": func(x *api.Item) { x.Then = api.Term{Parts: []api.Term{{}}} },
	}
}

func TestP12_1Items(t *testing.T) {
	mayHave := map[int]string{api.IMetric: " Name Unit ", api.IReplicas: " A B C ", api.IUp: " A ", api.IDown: " A ", api.ILet: " Name Term ", api.IGuard: " Term Then ", api.IDecide: " Then "}
	for kind := api.IMetric; kind <= api.IDecide; kind++ {
		if !item(wholeItem(kind)) {
			t.Error(kind)
		}
		for field, change := range itemChanges() {
			x := wholeItem(kind)
			change(&x)
			if item(x) != strings.Contains(mayHave[kind], " "+field+" ") {
				t.Errorf("%d with %s: %t", kind, field, item(x))
			}
		}
		for _, at := range []int{0, 1, -1, math.MaxInt, math.MinInt} {
			x := wholeItem(kind)
			x.At = at
			if !item(x) {
				t.Error(kind, at)
			}
		}
		x := wholeItem(kind) // a list without elements is none, and zero
		if kind != api.ILet && kind != api.IGuard {
			x.Term.Parts = []api.Term{}
		}
		if kind != api.IDecide && kind != api.IGuard {
			x.Then.Parts = []api.Term{}
		}
		if !item(x) {
			t.Error(kind)
		}
	}
}

func TestP12_1ItemsOfNoKind(t *testing.T) {
	for _, kind := range []int{0, -1, 8, 9, 33, math.MaxInt, math.MinInt, 1<<32 + 1, 1<<8 + 3} {
		if item(api.Item{Kind: kind}) {
			t.Error(kind)
		}
		for like := api.IMetric; like <= api.IDecide; like++ {
			x := wholeItem(like)
			x.Kind = kind
			if item(x) {
				t.Error(kind, like)
			}
		}
	}
	for from := api.IMetric; from <= api.IDecide; from++ {
		for to := api.IMetric; to <= api.IDecide; to++ {
			x := wholeItem(from)
			x.Kind = to
			up := func(kind int) bool { return kind == api.IUp || kind == api.IDown }
			if want := from == to || up(from) && (up(to) || to == api.IReplicas); item(x) != want {
				t.Error(from, to, item(x))
			}
		}
	}
}

func TestP12_1NumbersOfItems(t *testing.T) {
	for _, n := range []int64{0, 1, api.One, math.MaxInt64} {
		for _, x := range []api.Item{{A: n}, {B: n}, {C: n}, {A: n, B: n, C: n}} {
			x.Kind = api.IReplicas
			if !item(x) {
				t.Error(x)
			}
		}
		for _, x := range []api.Item{{A: -n - 1}, {B: -n - 1}, {C: -n - 1}, {A: 1, B: 1, C: -n - 1}, {A: -n - 1, B: n, C: n}, {A: n, B: -n - 1, C: n}} {
			x.Kind = api.IReplicas
			if item(x) {
				t.Error(x)
			}
		}
	}
	for _, kind := range []int{api.IUp, api.IDown} {
		for _, n := range []int64{1, 2, 604799, 604800} {
			if !item(api.Item{Kind: kind, A: n}) {
				t.Error(kind, n)
			}
		}
		for _, n := range []int64{0, -1, 604801, math.MaxInt64, math.MinInt64, 1<<32 + 1} {
			if item(api.Item{Kind: kind, A: n}) {
				t.Error(kind, n)
			}
		}
	}
}

func TestP12_1TermsOfItems(t *testing.T) {
	for kind := api.KNum; kind <= api.KLadder; kind++ {
		isExpr := kind <= api.KIf
		if item(api.Item{Kind: api.ILet, Name: "x", Term: whole(kind)}) != isExpr {
			t.Error(kind)
		}
		if item(api.Item{Kind: api.IGuard, Term: whole(kind), Then: of(api.KHold)}) != isExpr {
			t.Error(kind)
		}
		if item(api.Item{Kind: api.IGuard, Term: of(api.KTrue), Then: whole(kind)}) == isExpr {
			t.Error(kind)
		}
		if item(api.Item{Kind: api.IDecide, Then: whole(kind)}) == isExpr {
			t.Error(kind)
		}
	}
	for _, x := range []api.Item{{Kind: api.ILet, Name: "x"}, {Kind: api.ILet, Term: of(api.KTrue)}, {Kind: api.ILet, Name: "x", Term: num(-1, "")}, {Kind: api.IGuard}, {Kind: api.IGuard, Term: of(api.KTrue)},
		{Kind: api.IGuard, Then: of(api.KHold)}, {Kind: api.IGuard, Term: num(-1, ""), Then: of(api.KHold)}, {Kind: api.IGuard, Term: of(api.KTrue), Then: of(api.KTo)}, {Kind: api.IDecide}, {Kind: api.IDecide, Then: of(api.KTo, num(-1, ""))}} {
		if item(x) {
			t.Error(x)
		}
	}
}

func TestP12_1Policies(t *testing.T) {
	var items []api.Item
	for kind := api.IMetric; kind <= api.IGuard; kind++ {
		items = append(items, wholeItem(kind))
	}
	decide := wholeItem(api.IDecide)
	for _, list := range [][]api.Item{{decide}, append(slices.Clone(items), decide), append(append(slices.Clone(items), items...), decide)} {
		if !Policy(api.Policy{Name: "web", Items: list}) {
			t.Error(list)
		}
		if Policy(api.Policy{Items: list}) || Policy(api.Policy{Name: "policy", Items: list}) {
			t.Error("without a name")
		}
		for _, wrong := range [][]api.Item{list[:len(list)-1], append(slices.Clone(list), decide), append(slices.Clone(list), items[0]), append([]api.Item{decide}, list...), append([]api.Item{{}}, list...)} {
			if Policy(api.Policy{Name: "web", Items: wrong}) {
				t.Error(wrong)
			}
		}
	}
	for i := range items { // one of them isn't formed, wherever it stands
		for j := range items {
			list := slices.Clone(items)
			list[i], list[j] = list[j], list[i]
			list = append(list, decide)
			if !Policy(api.Policy{Name: "web", Items: list}) {
				t.Error(i, j)
			}
			list[i].B = -1
			if Policy(api.Policy{Name: "web", Items: list}) {
				t.Error(i, j)
			}
		}
	}
	for _, p := range []api.Policy{{}, {Name: "web"}, {Name: "web", Items: []api.Item{}}, {Name: "web", Items: []api.Item{{}}}, {Name: "web", Items: items}, {Name: "web", Items: []api.Item{{Kind: api.IDecide}}}} {
		if Policy(p) {
			t.Error(p)
		}
	}
}

func TestP12_1NodesOfPolicies(t *testing.T) {
	hold := api.Item{Kind: api.IDecide, Then: of(api.KHold)}
	let := func(x api.Term) api.Item { return api.Item{Kind: api.ILet, Name: "x", Term: x} }
	guard := func(x, then api.Term) api.Item { return api.Item{Kind: api.IGuard, Term: x, Then: then} }
	metric, up, replicas := wholeItem(api.IMetric), wholeItem(api.IUp), wholeItem(api.IReplicas)
	// Each makes items of n nodes together.
	for i, items := range []func(n int) []api.Item{
		func(n int) []api.Item { return []api.Item{let(deep(n-1, name("a"))), hold} },
		func(n int) []api.Item {
			return []api.Item{{Kind: api.IDecide, Then: of(api.KTo, deep(n-1, name("a")))}}
		},
		func(n int) []api.Item {
			return []api.Item{guard(deep(n-2, name("a")), of(api.KHold)), hold}
		},
		func(n int) []api.Item {
			return []api.Item{guard(name("a"), of(api.KBy, deep(n-3, name("a")))), hold}
		},
		func(n int) []api.Item {
			return []api.Item{metric, let(deep(n/2, name("a"))), up, guard(deep(n-n/2-3, name("b")), of(api.KTo, name("c"))), replicas, hold}
		},
		func(n int) []api.Item {
			list := slices.Repeat([]api.Item{metric, up, replicas}, 10000)
			return append(append(list, slices.Repeat([]api.Item{let(name("a"))}, n-1)...), hold)
		},
		func(n int) []api.Item {
			return []api.Item{let(wide(8001)), let(wide(8001)), let(deep(n-16003, name("a"))), hold}
		},
		func(n int) []api.Item {
			return []api.Item{let(name("a")), {Kind: api.IDecide, Then: flatLadder(n - 1)}}
		},
	} {
		for _, n := range []int{api.MaxTokens - 1, api.MaxTokens, api.MaxTokens + 1, api.MaxTokens + 2, 2 * api.MaxTokens} {
			p := api.Policy{Name: "web", Items: items(n)}
			if Policy(p) != (n <= api.MaxTokens) {
				t.Errorf("%d: %d nodes", i, n)
			}
		}
	}
}

// flatLadder answers a ladder of that many nodes, three at least.
func flatLadder(nodes int) api.Term {
	x := of(api.KLadder, name("a"))
	for range (nodes - 3) / 2 {
		x.Parts = append(x.Parts, num(1, ""), of(api.KHold))
	}
	if nodes%2 == 0 {
		x.Parts = append(x.Parts, of(api.KTo, name("a")))
	} else {
		x.Parts = append(x.Parts, of(api.KHold))
	}
	return x
}

func TestP12_1PoliciesBeyondAllBounds(t *testing.T) {
	// Each level has the one below twice: these are more nodes than could be gone through.
	x := name("a")
	for range 200 {
		x = of(api.KAdd, x, x)
	}
	if Policy(policy(api.Item{Kind: api.ILet, Name: "x", Term: x})) || Nodes(x) != api.MaxTokens+1 {
		t.Error("200 levels")
	}
}
