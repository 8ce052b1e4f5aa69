package show

import (
	"math"
	"math/rand"
	"slices"
	"strings"
	"testing"

	"capstan/api"
	"capstan/num"
	"capstan/parse"
	"capstan/tree"
)

// plainText tells an expression without any thought of levels: a part of a sign stands in brackets just if it is read
// as something else without them.
func plainText(x api.Term) string {
	pattern, ok := patterns[x.Kind]
	if !ok {
		return plainLeaf(x)
	}
	bare, safe := make([]string, len(x.Parts)), make([]string, len(x.Parts))
	for i, part := range x.Parts {
		bare[i] = plainText(part)
		safe[i] = "(" + bare[i] + ")"
	}
	told := slices.Clone(safe)
	for i := range x.Parts {
		trial := slices.Clone(safe)
		trial[i] = bare[i]
		if read, _, errno := parse.Expr(fill(pattern, trial)); errno == api.OK && tree.Same(read, x) {
			told[i] = bare[i]
		}
	}
	return fill(pattern, told)
}

func fill(pattern string, texts []string) string {
	pieces := strings.Split(pattern, "%")
	told := pieces[0]
	for i, text := range texts {
		told += text + pieces[i+1]
	}
	return told
}

func plainLeaf(x api.Term) string {
	seconds, _ := num.SpanText(x.N)
	switch x.Kind {
	case api.KNum:
		if x.Text == "" {
			return num.Text(x.N)
		}
		return num.Text(x.N) + "[" + x.Text + "]"
	case api.KTrue, api.KFalse, api.KReplicas:
		return []string{"true", "false", "replicas"}[x.Kind-api.KTrue]
	case api.KCron:
		return `cron("` + x.Text + `")`
	case api.KSum, api.KAvg, api.KLow, api.KHigh, api.KCount:
		return []string{"sum", "avg", "low", "high", "count"}[x.Kind-api.KSum] + "(" + x.Text + ", " + seconds + ")"
	case api.KRank:
		return "rank(" + x.Text + ", " + seconds + ", " + num.Text(x.M) + ")"
	}
	return x.Text
}

func plainAction(x api.Term) string {
	switch x.Kind {
	case api.KTo:
		return "to " + plainText(x.Parts[0])
	case api.KBy:
		return "by " + plainText(x.Parts[0])
	case api.KLadder:
		rungs := ""
		pairs := x.Parts[1 : len(x.Parts)-1]
		for pair := range slices.Chunk(pairs, 2) {
			rungs += plainText(pair[0]) + ": " + plainAction(pair[1]) + ", "
		}
		return "ladder " + plainText(x.Parts[0]) + " { " + rungs + "else: " + plainAction(x.Parts[len(x.Parts)-1]) + " }"
	}
	return "hold"
}

func plainItem(x api.Item) string {
	seconds, _ := num.SpanText(x.A)
	switch x.Kind {
	case api.IMetric:
		if x.Unit == "" {
			return "metric " + x.Name
		}
		return "metric " + x.Name + " [" + x.Unit + "]"
	case api.IReplicas:
		bounds := "replicas " + num.Text(x.A) + ".." + num.Text(x.B)
		if x.C == 0 {
			return bounds
		}
		return bounds + " step " + num.Text(x.C)
	case api.IUp:
		return "cooldown up " + seconds
	case api.IDown:
		return "cooldown down " + seconds
	case api.ILet:
		return "let " + x.Name + " = " + plainText(x.Term)
	case api.IGuard:
		return "guard " + plainText(x.Term) + " then " + plainAction(x.Then)
	}
	return "decide " + plainAction(x.Then)
}

func plainPolicy(p api.Policy) string {
	text := "policy " + p.Name + ";\n"
	for _, item := range p.Items {
		text += plainItem(item) + ";\n"
	}
	return text
}

// maker makes trees, each choice at random.
type maker struct{ *rand.Rand }

func one[T any](m maker, list ...T) T { return list[m.Intn(len(list))] }

func (m maker) name() string {
	return one(m, "a", "b", "cpu_1", "é", "Or", "min1", "_", strings.Repeat("é", 32))
}

func (m maker) number() int64 {
	return one(m, 0, 1, 500000, 1000000, 1500000, 42000000, m.Int63(), m.Int63n(100000000), math.MaxInt64)
}

func (m maker) span() int64 {
	return one(m, 1, 60, 90, 3600, 86400, api.MaxSpan, 1+m.Int63n(api.MaxSpan))
}

func (m maker) unit() string {
	return one(m, "", "", "s", "req/s", "é^2", " # ( ", "\t", strings.Repeat("日", 64))
}

func (m maker) expression(levels int) api.Term {
	if levels == 0 || m.Intn(8) == 0 {
		return m.leaf()
	}
	kind := api.KNeg + m.Intn(api.KIf-api.KNeg+1)
	if m.Intn(3) > 0 {
		kind = one(m, api.KNeg, api.KNot, api.KAdd, api.KSub, api.KMul, api.KDiv, api.KLess, api.KLeq, api.KEq, api.KMore, api.KMeq, api.KAnd, api.KOr)
	}
	x := api.Term{Kind: kind, At: m.Intn(100)}
	for range arity(kind) {
		x.Parts = append(x.Parts, m.expression(levels-1))
	}
	return x
}

func (m maker) leaf() api.Term {
	x := api.Term{Kind: one(m, api.KNum, api.KName, 1+m.Intn(api.KRank)), At: m.Intn(100)}
	switch x.Kind {
	case api.KNum:
		x.N, x.Text = m.number(), m.unit()
	case api.KName:
		x.Text = m.name()
	case api.KTrue, api.KFalse, api.KReplicas:
	case api.KCron:
		x.Text = one(m, "", "0 3 * * *", "é # ( or", "[", strings.Repeat("日", 64))
	default:
		x.Text, x.N = m.name(), m.span()
		if x.Kind == api.KRank {
			x.M = m.number()
		}
	}
	return x
}

func (m maker) bound() api.Term {
	x := number(m.number(), m.unit())
	if m.Intn(2) == 0 {
		x = of(api.KNeg, x)
	}
	return x
}

func (m maker) action(levels int) api.Term {
	kind := one(m, api.KHold, api.KTo, api.KBy, api.KLadder)
	if levels == 0 && kind == api.KLadder {
		kind = api.KHold
	}
	x := api.Term{Kind: kind, At: m.Intn(100)}
	if kind == api.KHold {
		return x
	}
	x.Parts = append(x.Parts, m.expression(m.Intn(4)))
	if kind == api.KLadder {
		for range m.Intn(4) {
			x.Parts = append(x.Parts, m.bound(), m.action(levels-1))
		}
		x.Parts = append(x.Parts, m.action(levels-1))
	}
	return x
}

func (m maker) item() api.Item {
	x := api.Item{Kind: 1 + m.Intn(api.IGuard), At: m.Intn(100)}
	switch x.Kind {
	case api.IMetric:
		x.Name, x.Unit = m.name(), m.unit()
	case api.IReplicas:
		x.A, x.B, x.C = m.number(), m.number(), m.number()
	case api.IUp, api.IDown:
		x.A = m.span()
	case api.ILet:
		x.Name, x.Term = m.name(), m.expression(m.Intn(5))
	case api.IGuard:
		x.Term, x.Then = m.expression(m.Intn(5)), m.action(m.Intn(4))
	}
	return x
}

func (m maker) policy() api.Policy {
	p := api.Policy{Name: m.name()}
	for range m.Intn(8) {
		p.Items = append(p.Items, m.item())
	}
	return api.Policy{Name: p.Name, Items: append(p.Items, api.Item{Kind: api.IDecide, Then: m.action(m.Intn(4)), At: m.Intn(100)})}
}

func TestP14RandomExpressions(t *testing.T) {
	m := maker{rand.New(rand.NewSource(14))}
	for range 6000 {
		x := m.expression(m.Intn(6))
		shows(t, x, plainText(x))
		if bare, errno := Expr(tree.Bare(x)); errno != api.OK || bare != plainText(x) {
			t.Fatal(bare, errno)
		}
		if t.Failed() {
			break
		}
	}
}

func TestP14RandomPolicies(t *testing.T) {
	m := maker{rand.New(rand.NewSource(141))}
	for range 1500 {
		p := m.policy()
		text, errno := Policy(p)
		if want := plainPolicy(p); errno != api.OK || text != want {
			t.Fatalf("Policy(%s) = %q, %d, wanted %q", brief(p), text, errno, want)
		}
		policyReadBack(t, p, text)
		if bare, errno := Policy(tree.BarePolicy(p)); errno != api.OK || bare != text {
			t.Fatal(bare, errno)
		}
		if t.Failed() {
			break
		}
	}
}

// node answers any node of t.
func (m maker) node(t *api.Term) *api.Term {
	for len(t.Parts) > 0 && m.Intn(3) > 0 {
		t = &t.Parts[m.Intn(len(t.Parts))]
	}
	return t
}

// spoil changes a field of a node of t.
func (m maker) spoil(t *api.Term) {
	t = m.node(t)
	switch m.Intn(6) {
	case 0:
		t.Kind = m.Intn(40) - 1
	case 1:
		t.Text = one(m, "", "a", "min", "\"", "[", "\n", "\xff", strings.Repeat("a", 33), strings.Repeat("a", 65))
	case 2:
		t.N = one[int64](m, -1, 0, 1, api.MaxSpan+1, math.MinInt64, math.MaxInt64)
	case 3:
		t.M = one[int64](m, -1, 0, 1, math.MinInt64, math.MaxInt64)
	case 4:
		t.Parts = append(t.Parts, m.leaf())
	case 5:
		t.Parts = t.Parts[:max(len(t.Parts)-1, 0)]
	}
}

func TestP14RandomTermsThatMayNotBeFormed(t *testing.T) {
	m := maker{rand.New(rand.NewSource(142))}
	formed := 0
	for range 20000 {
		x := tree.Bare(m.expression(m.Intn(4)))
		m.spoil(&x)
		if !tree.Formed(x) {
			refused(t, x, api.ErrForm)
			continue
		}
		formed++
		shows(t, x, plainText(x))
	}
	if formed < 1000 || formed > 19000 {
		t.Error(formed)
	}
}

func TestP14RandomPoliciesThatMayNotBeFormed(t *testing.T) {
	m := maker{rand.New(rand.NewSource(143))}
	formed := 0
	for range 5000 {
		p := tree.BarePolicy(m.policy())
		item := &p.Items[m.Intn(len(p.Items))]
		switch m.Intn(4) {
		case 0:
			m.spoil(&item.Term)
		case 1:
			m.spoil(&item.Then)
		case 2:
			item.Kind = m.Intn(9)
		case 3:
			item.A, item.Name = m.number()-1, one(m, "", "a", "to")
		}
		if !tree.Policy(p) {
			policyRefused(t, p, api.ErrForm)
			continue
		}
		formed++
		showsPolicy(t, p, plainPolicy(p))
	}
	if formed < 300 || formed > 4700 {
		t.Error(formed)
	}
}

func TestP14RandomSizes(t *testing.T) {
	// Trees about the limits: what is refused has a text beyond one of them, as told without any thought of them.
	m := maker{rand.New(rand.NewSource(144))}
	seen := map[api.Errno]int{}
	for range 40 {
		x := of(api.KAdd, brackets(60+m.Intn(6)), long(1+m.Intn(one(m, 1500, 2*api.MaxTokens))))
		if m.Intn(2) == 0 {
			x = of(api.KAdd, x, wide(one(m, 300, api.MaxSource-1000)+m.Intn(200000)))
		}
		var want api.Errno
		switch own := sizeByPatterns(x); {
		case own.depth > 64:
			want = api.ErrDeep
		case own.tokens > 16384:
			want = api.ErrLarge
		case own.bytes > 1048576:
			want = api.ErrLong
		}
		seen[want]++
		if want != api.OK {
			refused(t, x, want)
		} else if own := taken(t, x); own != sizeByPatterns(x) {
			t.Error(own, sizeByPatterns(x))
		}
	}
	if len(seen) != 4 {
		t.Error(seen)
	}
}

// sizeByPatterns reckons the size of an expression's text by the chapter's levels and texts alone.
func sizeByPatterns(x api.Term) size {
	pattern, ok := patterns[x.Kind]
	if !ok {
		own := size{0, 1, len(plainLeaf(x))}
		switch {
		case x.Kind == api.KNum && x.Text != "":
			own.tokens = 2
		case x.Kind == api.KCron:
			own = size{1, 4, own.bytes}
		case x.Kind == api.KRank:
			own = size{1, 8, own.bytes}
		case x.Kind >= api.KSum:
			own = size{1, 6, own.bytes}
		}
		return own
	}
	count := len(x.Parts)
	own := size{0, 1, len(pattern) - count}
	call := needs[x.Kind] == nil
	if call {
		own.depth, own.tokens = 1, 3+count-1
	}
	for i, part := range x.Parts {
		inner := sizeByPatterns(part)
		if call {
			inner.depth++
		} else if levels[part.Kind] < needs[x.Kind][i] {
			inner.depth, inner.tokens, inner.bytes = inner.depth+1, inner.tokens+2, inner.bytes+2
		}
		own = size{max(own.depth, inner.depth), own.tokens + inner.tokens, own.bytes + inner.bytes}
	}
	return own
}
