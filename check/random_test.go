package check

import (
	"math"
	"math/rand"
	"slices"
	"strings"
	"testing"

	"capstan/api"
	"capstan/core"
	"capstan/dim"
	"capstan/parse"
	"capstan/show"
	"capstan/tree"
)

// named is what a name of a policy stands for: a truth, or a dimension's text.
type named struct {
	name, kind string
}

// maker makes policies by chance, always the same ones from one seed. What it makes is mostly of
// the types that are asked for.
type maker struct {
	*rand.Rand
	at            int
	metrics, lets []named
}

func newMaker(seed int64) *maker {
	return &maker{Rand: rand.New(rand.NewSource(seed))}
}

func one[T any](m *maker, list ...T) T { return list[m.Intn(len(list))] }

// place answers a place that no other node has.
func (m *maker) place() int {
	m.at += 1 + m.Intn(3)
	return m.at
}

// unitsOf answers texts of units of the dimension.
func unitsOf(kind string) []string {
	return map[string][]string{
		"1": {"", "", "", "one", "pct", "s/s", "ms/s"}, "s": {"s", "ms", "min", "h*s/s", "d"}, "req": {"req", "kreq"}, "s^-1*req": {"req/s", "kreq/min", "one/s*req"},
		"B": {"B", "kB", "GiB"}, "rep": {"rep", "rep", "rep*pct", "rep*s/ms"}, "core": {"core", "mcore"}, "s^2": {"s^2", "ms*min"}, "s^-1*rep": {"rep/s", "rep/h"}, "s^8": {"s^8"}, "s^7": {"s^7", "s^8/ms"},
	}[kind]
}

func (m *maker) kind() string {
	return one(m, "1", "1", "s", "rep", "rep", "s", "req", "s^-1*req", "B", "core", "s^2", "s^-1*rep", "s^8", "s^7")
}

func (m *maker) number() int64 {
	return one(m, 0, 1, 999, 500000, 1000000, 1500000, 42000000, m.Int63n(100000000), m.Int63(), math.MaxInt64)
}

func (m *maker) term(kind int, parts ...api.Term) api.Term {
	return api.Term{Kind: kind, At: m.place(), Parts: parts}
}

func (m *maker) literal(kind string) api.Term {
	x := m.term(api.KNum)
	x.N = m.number()
	x.Text = one(m, unitsOf(kind)...)
	return x
}

func (m *maker) window(metric named) api.Term {
	x := m.term(one(m, api.KSum, api.KAvg, api.KLow, api.KHigh, api.KRank))
	x.Text, x.N = metric.name, one[int64](m, 1, 60, api.MaxSpan)
	if x.Kind == api.KRank {
		x.M = one[int64](m, 1, 50000000, 95000000, 100000000)
	}
	return x
}

// ofKind answers one of the list of the kind.
func (m *maker) ofKind(list []named, kind string) (named, bool) {
	for _, i := range m.Perm(len(list)) {
		if list[i].kind == kind {
			return list[i], true
		}
	}
	return named{}, false
}

func (m *maker) numberLeaf(kind string) api.Term {
	if n, ok := m.ofKind(m.lets, kind); ok && m.Intn(3) > 0 {
		x := m.term(api.KName)
		x.Text = n.name
		return x
	}
	if n, ok := m.ofKind(m.metrics, kind); ok && m.Intn(2) == 0 {
		return m.window(n)
	}
	if kind == "1" && len(m.metrics) > 0 && m.Intn(4) == 0 {
		x := m.window(one(m, m.metrics...))
		x.Kind, x.M = api.KCount, 0
		return x
	}
	if kind == "rep" && m.Intn(2) == 0 {
		return m.term(api.KReplicas)
	}
	return m.literal(kind)
}

func (m *maker) truthLeaf() api.Term {
	if n, ok := m.ofKind(m.lets, "truth"); ok && m.Intn(2) == 0 {
		x := m.term(api.KName)
		x.Text = n.name
		return x
	}
	if m.Intn(3) == 0 {
		x := m.term(api.KCron)
		x.Text = one(m, "0 3 * * *", "*/15 8-18 * * 1-5", "* * * * *")
		return x
	}
	return m.term(one(m, api.KTrue, api.KFalse))
}

func (m *maker) truth(depth int) api.Term {
	if depth == 0 || m.Intn(8) == 0 {
		return m.truthLeaf()
	}
	switch m.Intn(6) {
	case 0:
		return m.term(api.KNot, m.truth(depth-1))
	case 1:
		return m.term(one(m, api.KAnd, api.KOr, api.KEither), m.truth(depth-1), m.truth(depth-1))
	case 2:
		return m.term(api.KIf, m.truth(depth-1), m.truth(depth-1), m.truth(depth-1))
	}
	kind := m.kind()
	return m.term(api.KLess+m.Intn(5), m.numberOf(kind, depth-1), m.numberOf(kind, depth-1))
}

func (m *maker) numberOf(kind string, depth int) api.Term {
	if depth == 0 || m.Intn(8) == 0 {
		return m.numberLeaf(kind)
	}
	switch m.Intn(6) {
	case 0:
		return m.term(one(m, api.KNeg, api.KAbs, api.KCeil, api.KFloor), m.numberOf(kind, depth-1))
	case 1, 2:
		return m.term(one(m, api.KAdd, api.KSub, api.KMin, api.KMax, api.KEither), m.numberOf(kind, depth-1), m.numberOf(kind, depth-1))
	case 3:
		return m.term(api.KIf, m.truth(depth-1), m.numberOf(kind, depth-1), m.numberOf(kind, depth-1))
	}
	pairs := [][3]string{{"*", kind, "1"}, {"*", "1", kind}, {"/", kind, "1"}}
	pairs = append(pairs, map[string][][3]string{
		"1": {{"/", "s", "s"}, {"/", "rep", "rep"}}, "s": {{"/", "s^2", "s"}, {"/", "s^8", "s^7"}}, "rep": {{"*", "s^-1*rep", "s"}, {"*", "s", "s^-1*rep"}}, "s^2": {{"*", "s", "s"}}, "req": {{"*", "s^-1*req", "s"}},
		"s^-1*req": {{"/", "req", "s"}}, "s^-1*rep": {{"/", "rep", "s"}}, "s^8": {{"*", "s^7", "s"}}, "s^7": {{"/", "s^8", "s"}},
	}[kind]...)
	pair := one(m, pairs...)
	op := map[string]int{"*": api.KMul, "/": api.KDiv}[pair[0]]
	return m.term(op, m.numberOf(pair[1], depth-1), m.numberOf(pair[2], depth-1))
}

func (m *maker) action(depth int) api.Term {
	if depth == 0 || m.Intn(5) == 0 {
		return m.term(api.KHold)
	}
	if m.Intn(2) == 0 {
		return m.term(one(m, api.KTo, api.KBy), m.numberOf("rep", depth-1))
	}
	kind := m.kind()
	x := m.term(api.KLadder, m.numberOf(kind, depth-1))
	for _, bound := range m.bounds(kind) {
		x.Parts = append(x.Parts, bound, m.action(depth-1))
	}
	x.Parts = append(x.Parts, m.action(depth-1))
	return x
}

// bounds answers literals of the kind, which mostly rise.
func (m *maker) bounds(kind string) []api.Term {
	var list []api.Term
	for range m.Intn(4) {
		x := m.literal(kind)
		if m.Intn(3) == 0 {
			x = m.term(api.KNeg, x)
		}
		list = append(list, x)
	}
	if m.Intn(8) > 0 {
		worth := func(x api.Term) int64 {
			n, text, _ := tree.Literal(x)
			if text == "" {
				return n
			}
			u, _, _ := dim.Read(text)
			return dim.Value(u, n)
		}
		slices.SortFunc(list, func(a, b api.Term) int { return int(min(1, max(-1, worth(a)/2-worth(b)/2))) })
		list = slices.CompactFunc(list, func(a, b api.Term) bool { return worth(a)/2 == worth(b)/2 })
	}
	return list
}

func (m *maker) newName() string {
	if m.Intn(40) == 0 { // one that is there already, perhaps
		return one(m, "a", "b", "c")
	}
	return string(rune('a'+m.Intn(26))) + string(rune('a'+m.Intn(26)))
}

func (m *maker) item() api.Item {
	item := api.Item{Kind: one(m, api.IMetric, api.IMetric, api.ILet, api.ILet, api.ILet, api.IGuard, api.IGuard), At: m.place()}
	switch item.Kind {
	case api.IMetric:
		kind := m.kind()
		item.Name, item.Unit = m.newName(), one(m, unitsOf(kind)...)
		m.metrics = append(m.metrics, named{item.Name, kind})
	case api.ILet:
		item.Name = m.newName()
		kind := "truth"
		if m.Intn(4) == 0 {
			item.Term = m.truth(m.Intn(4))
		} else {
			kind = m.kind()
			item.Term = m.numberOf(kind, m.Intn(4))
		}
		m.lets = append(m.lets, named{item.Name, kind})
	case api.IGuard:
		item.Term, item.Then = m.truth(m.Intn(4)), m.action(m.Intn(4))
	}
	return item
}

func (m *maker) policy() api.Policy {
	m.at, m.metrics, m.lets = 0, nil, nil
	p := api.Policy{Name: one(m, "p", "a", "é_1")}
	bounds := api.Item{Kind: api.IReplicas, At: m.place(), A: int64(m.Intn(3)) * api.One, B: int64(2+m.Intn(9)) * api.One, C: int64(m.Intn(3)) * api.One}
	when := m.Intn(8)
	for i := range 8 {
		if i == when {
			p.Items = append(p.Items, bounds)
		}
		if m.Intn(4) > 0 {
			p.Items = append(p.Items, m.item())
		}
		if m.Intn(12) == 0 {
			p.Items = append(p.Items, api.Item{Kind: one(m, api.IUp, api.IDown), A: 1 + m.Int63n(api.MaxSpan), At: m.place()})
		}
	}
	p.Items = append(p.Items, api.Item{Kind: api.IDecide, Then: m.action(m.Intn(5)), At: m.place()})
	return p
}

// anyNode answers a node of t.
func (m *maker) anyNode(t *api.Term) *api.Term {
	for len(t.Parts) > 0 && m.Intn(3) > 0 {
		t = &t.Parts[m.Intn(len(t.Parts))]
	}
	return t
}

// spoil changes something in p, which may be formed behind it, and may even be fine.
func (m *maker) spoil(p *api.Policy) {
	item := &p.Items[m.Intn(len(p.Items))]
	x := &item.Term
	if x.Kind == 0 || item.Then.Kind != 0 && m.Intn(2) == 0 {
		x = &item.Then
	}
	if x.Kind == 0 || m.Intn(6) == 0 {
		m.spoilItems(p, item)
		return
	}
	x = m.anyNode(x)
	like := func(from, to int) {
		if x.Kind >= from && x.Kind <= to {
			x.Kind = from + m.Intn(to-from+1)
		}
	}
	switch m.Intn(6) {
	case 0: // another one of as many parts
		like(api.KNeg, api.KFloor)
		like(api.KAdd, api.KEither)
		like(api.KTo, api.KBy)
	case 1:
		if x.Kind < api.KHold {
			at := x.At
			*x = m.numberOf(m.kind(), m.Intn(2))
			x.At = at
		}
	case 2:
		if x.Kind < api.KHold {
			*x = m.truth(m.Intn(2))
		}
	case 3:
		if x.Kind == api.KNum {
			x.Text = one(m, "", "s", "rep", "sec", "s^9", "GiB^2", "s*", strings.Repeat("é", 33), "s^8")
		}
		if x.Kind == api.KCron {
			x.Text = one(m, "", "* * * *", "61 * * * *")
		}
		if x.Kind == api.KName || x.Kind >= api.KSum && x.Kind <= api.KRank {
			x.Text = one(m, "a", "b", m.newName())
		}
		if x.Kind == api.KRank {
			x.M = one[int64](m, 0, 1, 100000000, 100000001, math.MaxInt64)
		}
	case 4:
		m.Shuffle(len(x.Parts), func(i, j int) { x.Parts[i], x.Parts[j] = x.Parts[j], x.Parts[i] })
	case 5:
		if x.Kind == api.KLadder && len(x.Parts) > 4 {
			x.Parts[1], x.Parts[3] = x.Parts[3], x.Parts[1]
		}
	}
}

func (m *maker) spoilItems(p *api.Policy, item *api.Item) {
	switch m.Intn(5) {
	case 0: // one more, or one less
		i := m.Intn(len(p.Items))
		p.Items = slices.Insert(p.Items, i, p.Items[m.Intn(len(p.Items))])
		p.Items[i].At = m.place()
	case 1:
		i := m.Intn(len(p.Items))
		p.Items = slices.Delete(p.Items, i, i+1)
	case 2:
		i, j := m.Intn(len(p.Items)), m.Intn(len(p.Items))
		p.Items[i], p.Items[j] = p.Items[j], p.Items[i]
	case 3:
		if item.Kind == api.IMetric {
			item.Unit = one(m, "s", "sec", "s^9", "GiB*MB", strings.Repeat("é", 33))
		}
		if item.Name != "" {
			item.Name = m.newName()
		}
	case 4:
		if item.Kind == api.IReplicas {
			field := one(m, &item.A, &item.B, &item.C)
			*field = one[int64](m, 0, 1, 500000, api.One, 2000000, api.MaxReplicas*api.One, api.MaxReplicas*api.One+1, (api.MaxReplicas+1)*api.One, math.MaxInt64)
		}
	}
}

// agrees wants that Policy tells of p what the plain one tells.
func agrees(t *testing.T, p api.Policy) (api.Plan, api.Errno) {
	t.Helper()
	plan, at, errno := Policy(p)
	want, where, why := plainPolicy(p)
	if at != where || errno != why || !samePlan(plan, want) {
		text, _ := show.Policy(p)
		t.Fatalf("%s\n%s: %v, %d at %d, wanted %v, %d at %d", text, brief(p), plan, errno, at, want, why, where)
	}
	if errno == api.OK && !core.Formed(plan) {
		t.Fatalf("%s: %s isn't formed", brief(p), brief(plan))
	}
	return plan, errno
}

// follows wants what P16.3 says of p.
func follows(t *testing.T, p api.Policy) {
	t.Helper()
	plan, _, errno := Policy(p)
	alike, at, why := Policy(tree.BarePolicy(p))
	if at != 0 || why != errno || !samePlan(plan, alike) {
		t.Fatalf("%s without places: %s, %d at %d", brief(p), brief(alike), why, at)
	}
	text, told := show.Policy(p)
	if told != api.OK {
		return
	}
	alike, at, why = Load(text)
	if why != errno || !samePlan(plan, alike) || at < 0 || at > len(text) || errno == api.OK && at != 0 {
		t.Fatalf("%s: %s, %d at %d", text, brief(alike), why, at)
	}
	p, _, _ = parse.Policy(text)
	_, where, _ := Policy(p)
	if at != where {
		t.Fatalf("%s: at %d, wanted %d", text, at, where)
	}
}

func TestP16RandomPolicies(t *testing.T) {
	m := newMaker(16)
	count := map[api.Errno]int{}
	for range 15000 {
		p := m.policy()
		for range m.Intn(4) {
			m.spoil(&p)
		}
		_, errno := agrees(t, p)
		count[errno]++
		follows(t, p)
	}
	for _, errno := range []api.Errno{api.OK, api.ErrForm, api.ErrRange, api.ErrUnit, api.ErrBig, api.ErrName, api.ErrTwice, api.ErrType, api.ErrDim, api.ErrCron, api.ErrLadder, api.ErrMissing} {
		if count[errno] < 20 {
			t.Errorf("%d: %d times", errno, count[errno])
		}
	}
	if count[api.OK] < 3000 {
		t.Error(count)
	}
}

// Policies whose lets grow till there is no room for them.
func TestP16RandomLargePolicies(t *testing.T) {
	m := newMaker(161)
	count := map[api.Errno]int{}
	for range 1500 {
		p := api.Policy{Name: "p", Items: []api.Item{{Kind: api.IReplicas, B: api.One, At: 1}, {Kind: api.IMetric, Name: "m", Unit: one(m, "", "ms"), At: 2}}}
		m.at, m.metrics, m.lets = 2, []named{{"m", map[string]string{"": "1", "ms": "s"}[p.Items[1].Unit]}}, nil
		for i := range 6 + m.Intn(20) {
			item := api.Item{Kind: api.ILet, Name: "x" + string(rune('a'+i)), At: m.place()}
			kind := one(m, m.metrics[0].kind, "truth")
			if kind == "truth" {
				item.Term = m.truth(3)
			} else {
				item.Term = m.numberOf(kind, 3)
			}
			m.lets = append(m.lets, named{item.Name, kind})
			if len(m.lets) > 2 {
				m.lets = m.lets[1:]
			}
			p.Items = append(p.Items, item)
			if m.Intn(3) == 0 {
				p.Items = append(p.Items, api.Item{Kind: api.IGuard, Term: m.truth(2), Then: m.action(2), At: m.place()})
			}
		}
		p.Items = append(p.Items, api.Item{Kind: api.IDecide, Then: m.action(3), At: m.place()})
		_, errno := agrees(t, p)
		count[errno]++
		follows(t, p)
	}
	if count[api.OK] < 100 || count[api.ErrLarge] < 100 {
		t.Error(count)
	}
}

// loadIs wants that Load tells of s what parse and Policy tell.
func loadIs(t *testing.T, s string) api.Errno {
	t.Helper()
	plan, at, errno := Load(s)
	if at < 0 || at > len(s) || errno == api.OK && at != 0 {
		t.Fatalf("Load(%q): %d at %d", s, errno, at)
	}
	p, where, why := parse.Policy(s)
	want := api.Plan{}
	if why == api.OK {
		want, where, why = Policy(p)
	}
	if at != where || errno != why || !samePlan(plan, want) {
		t.Fatalf("Load(%q) = %s, %d at %d, wanted %s, %d at %d", s, brief(plan), errno, at, brief(want), why, where)
	}
	return errno
}

func TestP16_2TextsThatAreNone(t *testing.T) {
	for _, s := range []string{"", "policy", "policy p;", "policy p; replicas 1..9;", "policy p; decide hold", "policy p; decide hold; decide hold;", "policy p; decide @;", "policy min; decide hold;", "policy p; let x = (1; decide hold;",
		"\xff", "policy p; # \x00\n decide hold;", "policy p; decide to 1x;", "policy p; cooldown up 8d; decide hold;", "policy p; let x = " + strings.Repeat("(", 65) + "1" + strings.Repeat(")", 65) + "; decide hold;",
		strings.Repeat(" ", api.MaxSource+1), strings.Repeat("a ", api.MaxTokens+1), "policy p; let a = 1[" + strings.Repeat("s", 65) + "]; decide hold;", "policy p; replicas 1.5..9; decide hold"} {
		p, at, errno := parse.Policy(s)
		if errno == api.OK {
			t.Fatal(brief(s), p)
		}
		failsAt(t, s, at, errno)
		loadIs(t, s)
	}
	// The text's faults come ahead of the policy's, wherever they stand.
	failsAt(t, "policy p; let a = 1[sec]; decide hold", 37, api.ErrSyntax)
	failsAt(t, "policy p; let a = y; decide hold; @", 34, api.ErrToken)
	faulty(t, "# a remark é\npolicy p;\n\tlet é = @1[sec]; # 1[s^9]\ndecide hold;", api.ErrUnit)
}

func TestP16_2RandomTexts(t *testing.T) {
	m := newMaker(162)
	count := map[api.Errno]int{}
	pieces := []string{";", "1", "[s]", "[sec]", "true", "replicas", "to", "hold", "not", "+", "*", "(", ")", "a", "-", " ", "\n", "#", "\"", "é", "0.5", "9", "let", "1s", "\x00", "decide"}
	for range 12000 {
		text, errno := show.Policy(m.policy())
		if errno != api.OK { // a name that is a reserved word
			continue
		}
		for range m.Intn(3) {
			at := m.Intn(len(text) + 1)
			end := min(len(text), at+m.Intn(4))
			text = text[:at] + one(m, pieces...) + text[end:]
		}
		count[loadIs(t, text)]++
	}
	if count[api.OK] < 1000 || count[api.ErrSyntax] < 1000 || count[api.ErrName] < 50 || count[api.ErrUnit] < 50 || count[api.ErrTwice] < 50 {
		t.Error(count)
	}
}

func TestP16_3Examples(t *testing.T) {
	for _, s := range []string{rich, all + "decide hold;", all + "decide to 2;", all + "let x = 1[sec]; decide hold;", "policy p; decide hold;",
		all + "decide ladder ((1)) { -1: (hold), else: hold };", "policy  p;replicas 1..9;# é\ndecide to((2[rep]));", all + "decide ladder 1 { 2.50: to (replicas), -3: hold, else: hold };"} {
		p, _, errno := parse.Policy(s)
		if errno == api.OK {
			follows(t, p)
		}
	}
	loads(t, "policy  p;replicas 1.0..9 step 0;# é\ndecide to((2.0[rep]));", loaded(t, "policy q; replicas 1..9; decide to 2[rep];"))
}
