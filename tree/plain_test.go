package tree

import (
	"math"
	"math/rand"
	"reflect"
	"regexp"
	"slices"
	"strings"
	"testing"

	"capstan/api"
	"capstan/lex"
)

// The chapter's texts, as forms of what stands in them. A byte that is no text is put in the place of a rune that
// may not stand there ahead of asking, since a form takes it for fffd.
var (
	bracketForm = regexp.MustCompile(`\A[\t\r -!#-Z\\^-~\x{a0}-\x{fefe}\x{ff00}-\x{10ffff}]{0,64}\z`)
	quotedForm  = regexp.MustCompile(`\A[\t\r -!#-~\x{a0}-\x{fefe}\x{ff00}-\x{10ffff}]{0,64}\z`)
)

func matches(form *regexp.Regexp, s string) bool {
	return form.MatchString(strings.ToValidUTF8(s, "\x00"))
}

// shape is what a kind asks for: how many parts, and what of Text, N and M.
type shape struct {
	parts  int
	text   func(string) bool
	leastN int64
	mostN  int64
	leastM int64
	mostM  int64
}

// shapes answers what each kind of expression asks for.
func shapes() map[int]shape {
	list := map[int]shape{}
	noText := func(s string) bool { return s == "" }
	for kind := 1; kind <= 32; kind++ {
		x := shape{text: noText}
		switch {
		case kind >= 13 && kind <= 17:
			x.parts = 1
		case kind >= 18 && kind <= 31:
			x.parts = 2
		case kind == 32:
			x.parts = 3
		case kind >= 7 && kind <= 12:
			x.text, x.leastN, x.mostN = lex.IsName, 1, 604800
		}
		list[kind] = x
	}
	list[1] = shape{text: func(s string) bool { return matches(bracketForm, s) }, mostN: math.MaxInt64}
	list[2] = shape{text: lex.IsName}
	list[6] = shape{text: func(s string) bool { return matches(quotedForm, s) }}
	rank := list[12]
	rank.mostM = math.MaxInt64
	list[12] = rank
	return list
}

var kindShapes = shapes()

// plainFormed is what Formed has to say of t.
func plainFormed(t api.Term) bool {
	x, known := kindShapes[t.Kind]
	if !known || len(t.Parts) != x.parts || !x.text(t.Text) || t.N < x.leastN || t.N > x.mostN || t.M < x.leastM || t.M > x.mostM {
		return false
	}
	return !slices.ContainsFunc(t.Parts, func(part api.Term) bool { return !plainFormed(part) })
}

// plainAction is what Action has to say of t.
func plainAction(t api.Term) bool {
	if t.Text != "" || t.N != 0 || t.M != 0 {
		return false
	}
	switch count := len(t.Parts); t.Kind {
	case 33:
		return count == 0
	case 34, 35:
		return count == 1 && plainFormed(t.Parts[0])
	case 36:
		if count < 2 || count%2 == 1 || !plainFormed(t.Parts[0]) || !plainAction(t.Parts[count-1]) {
			return false
		}
		for i := 1; i < count-1; i += 2 {
			if !plainFormed(t.Parts[i]) || !isLiteral(t.Parts[i]) || !plainAction(t.Parts[i+1]) {
				return false
			}
		}
		return true
	}
	return false
}

// isLiteral is whether a formed expression is a literal.
func isLiteral(t api.Term) bool {
	return t.Kind == 1 || t.Kind == 13 && t.Parts[0].Kind == 1
}

// order answers the nodes of t in their order, without their parts.
func order(t api.Term) []api.Term {
	parts := t.Parts
	t.Parts = nil
	list := []api.Term{t}
	for _, part := range parts {
		list = append(list, order(part)...)
	}
	return list
}

// plainPolicy is what Policy has to say of p.
func plainPolicy(p api.Policy) bool {
	count := 0
	for i, x := range p.Items {
		var want api.Item
		right := false
		switch x.Kind {
		case 1:
			right = lex.IsName(x.Name) && matches(bracketForm, x.Unit)
			want.Name, want.Unit = x.Name, x.Unit
		case 2:
			right = min(x.A, x.B, x.C) >= 0
			want.A, want.B, want.C = x.A, x.B, x.C
		case 3, 4:
			right = x.A == min(max(x.A, 1), 604800)
			want.A = x.A
		case 5:
			right = lex.IsName(x.Name) && plainFormed(x.Term)
			want.Name, want.Term = x.Name, x.Term
			count += len(order(x.Term))
		case 6:
			right = plainFormed(x.Term) && plainAction(x.Then)
			want.Term, want.Then = x.Term, x.Then
			count += len(order(x.Term)) + len(order(x.Then))
		case 7:
			right = plainAction(x.Then) && i == len(p.Items)-1
			want.Then = x.Then
			count += len(order(x.Then))
		}
		want.Kind, want.At = x.Kind, x.At
		if !right || !reflect.DeepEqual(x, want) {
			return false
		}
	}
	return lex.IsName(p.Name) && len(p.Items) > 0 && p.Items[len(p.Items)-1].Kind == 7 && count <= 16384
}

// maker makes random trees.
type maker struct{ *rand.Rand }

func one[T any](m maker, list ...T) T {
	return list[m.Intn(len(list))]
}

func (m maker) name() string { return one(m, "a", "b", "cpu", "é", "x1") }

// expression answers a formed one of at most that many levels.
func (m maker) expression(levels int) api.Term {
	kind := m.Intn(32) + 1
	if levels <= 1 {
		kind = m.Intn(12) + 1
	}
	t := api.Term{Kind: kind, At: m.Intn(100)}
	switch {
	case kind == api.KNum:
		t.N, t.Text = one(m, 0, 1, 5000000, int64(math.MaxInt64)), one(m, "", "s", "req/s", "é")
	case kind == api.KName:
		t.Text = m.name()
	case kind == api.KCron:
		t.Text = one(m, "", "* * * * *", "[x]")
	case kind >= api.KSum && kind <= api.KRank:
		t.Text, t.N = m.name(), one[int64](m, 1, 60, 604800)
		if kind == api.KRank {
			t.M = one[int64](m, 0, 95000000, math.MaxInt64)
		}
	}
	for range arity(kind) {
		t.Parts = append(t.Parts, m.expression(levels-1))
	}
	return t
}

// action answers a formed one of at most that many levels.
func (m maker) action(levels int) api.Term {
	t := api.Term{Kind: m.Intn(4) + 33, At: m.Intn(100)}
	if levels <= 1 {
		t.Kind = api.KHold
	}
	switch t.Kind {
	case api.KTo, api.KBy:
		t.Parts = []api.Term{m.expression(levels - 1)}
	case api.KLadder:
		t.Parts = []api.Term{m.expression(levels - 1)}
		for range m.Intn(4) {
			bound := num(int64(m.Intn(10)), one(m, "", "s"))
			if m.Intn(2) == 0 {
				bound = of(api.KNeg, bound)
			}
			t.Parts = append(t.Parts, bound, m.action(levels-1))
		}
		t.Parts = append(t.Parts, m.action(levels-1))
	}
	return t
}

// policy answers a formed one.
func (m maker) policy() api.Policy {
	p := api.Policy{Name: m.name()}
	for range m.Intn(6) {
		x := wholeItem(m.Intn(6) + 1)
		x.At = m.Intn(100)
		switch x.Kind {
		case api.ILet:
			x.Term = m.expression(3)
		case api.IGuard:
			x.Term, x.Then = m.expression(3), m.action(3)
		}
		p.Items = append(p.Items, x)
	}
	return api.Policy{Name: p.Name, Items: append(p.Items, api.Item{Kind: api.IDecide, Then: m.action(3), At: m.Intn(100)})}
}

// node answers the place of one of the nodes of t.
func (m maker) node(t *api.Term) *api.Term {
	for len(t.Parts) > 0 && m.Intn(3) > 0 {
		t = &t.Parts[m.Intn(len(t.Parts))]
	}
	return t
}

// spoil changes one thing of one of the nodes of t.
func (m maker) spoil(t *api.Term) {
	x := m.node(t)
	switch m.Intn(8) {
	case 0:
		x.Kind = m.Intn(40) - 1
	case 1:
		x.Text = one(m, "", "a", "min", "s", "[", "\"", "\n", "\xff", "é", strings.Repeat("é", 64), strings.Repeat("a", 65), strings.Repeat("a", 32), strings.Repeat("a", 33))
	case 2:
		x.N = one[int64](m, 0, 1, -1, 604800, 604801, math.MaxInt64, math.MinInt64)
	case 3:
		x.M = one[int64](m, 0, 1, -1, math.MaxInt64, math.MinInt64)
	case 4:
		x.At = one(m, 0, 1, -1, math.MaxInt, math.MinInt)
	case 5:
		*x = one(m, m.expression(2), m.action(2), api.Term{}, num(1, ""), of(api.KNeg, num(1, "")))
	case 6:
		x.Parts = slices.Insert(x.Parts, m.Intn(len(x.Parts)+1), one(m, m.expression(2), m.action(2), api.Term{}))
	case 7:
		if len(x.Parts) > 0 {
			at := m.Intn(len(x.Parts))
			x.Parts = slices.Delete(x.Parts, at, at+1)
		}
	}
}

// agrees holds all that is asked of a term against the plain reading.
func agrees(t *testing.T, x api.Term) {
	t.Helper()
	isExpr, isAction := plainFormed(x), plainAction(x)
	if Formed(x) != isExpr || Action(x) != isAction {
		t.Fatalf("%v: %t, %t, wanted %t, %t", x, Formed(x), Action(x), isExpr, isAction)
	}
	nodes := order(x)
	if Nodes(x) != min(len(nodes), 16385) {
		t.Fatalf("Nodes(%v) = %d, wanted %d", x, Nodes(x), len(nodes))
	}
	var names []string
	for _, n := range nodes {
		if n.Kind == 2 && !slices.Contains(names, n.Text) {
			names = append(names, n.Text)
		}
	}
	if !slices.Equal(Names(x), names) {
		t.Fatalf("Names(%v) = %v, wanted %v", x, Names(x), names)
	}
	wantN, wantUnit, wantOk := int64(0), "", isExpr && isLiteral(x)
	if wantOk && x.Kind == 1 {
		wantN, wantUnit = x.N, x.Text
	} else if wantOk {
		wantN, wantUnit = -x.Parts[0].N, x.Parts[0].Text
	}
	if n, unit, ok := Literal(x); n != wantN || unit != wantUnit || ok != wantOk {
		t.Fatalf("Literal(%v) = %d, %q, %t, wanted %d, %q, %t", x, n, unit, ok, wantN, wantUnit, wantOk)
	}
	for kind := -1; kind <= 38; kind++ {
		list, errno := Open(x, kind)
		if (isExpr || isAction) && kind == x.Kind {
			if errno != api.OK || !equal(list, x.Parts) {
				t.Fatalf("Open(%v, %d) = %v, %d", x, kind, list, errno)
			}
		} else if errno != api.ErrForm || len(list) != 0 {
			t.Fatalf("Open(%v, %d) = %v, %d", x, kind, list, errno)
		}
	}
}

// equal is whether the lists are the same, places and all.
func equal(a, b []api.Term) bool {
	return slices.EqualFunc(a, b, func(a, b api.Term) bool {
		return a.Kind == b.Kind && a.Text == b.Text && a.N == b.N && a.M == b.M && a.At == b.At && equal(a.Parts, b.Parts)
	})
}

// twin answers t in memory of its own, by other means than the package's.
func twin(t api.Term) api.Term {
	t.Text = string([]byte(t.Text))
	t.Parts = slices.Clone(t.Parts)
	for i := range t.Parts {
		t.Parts[i] = twin(t.Parts[i])
	}
	return t
}

// twinPolicy answers p in memory of its own.
func twinPolicy(p api.Policy) api.Policy {
	p.Items = slices.Clone(p.Items)
	for i, x := range p.Items {
		p.Items[i].Term, p.Items[i].Then = twin(x.Term), twin(x.Then)
	}
	return p
}

func TestP12RandomTerms(t *testing.T) {
	m := maker{rand.New(rand.NewSource(12))}
	kept := 0
	for range 30000 {
		x := m.expression(4)
		if m.Intn(2) == 0 {
			x = m.action(4)
		}
		agrees(t, x)
		for range 3 {
			m.spoil(&x)
			agrees(t, x)
			if plainFormed(x) || plainAction(x) {
				kept++
			}
		}
	}
	if kept < 10000 {
		t.Error("nearly all that is spoilt is unformed:", kept)
	}
}

func TestP12RandomPolicies(t *testing.T) {
	m := maker{rand.New(rand.NewSource(121))}
	for range 20000 {
		p := m.policy()
		if !Policy(p) || !plainPolicy(p) {
			t.Fatalf("%v", p)
		}
		for range 3 {
			q := twinPolicy(p)
			x := &q.Items[m.Intn(len(q.Items))]
			switch m.Intn(6) {
			case 0:
				change := itemChanges()
				keys := slices.Sorted(func(yield func(string) bool) {
					for key := range change {
						if !yield(key) {
							return
						}
					}
				})
				change[keys[m.Intn(len(keys))]](x)
			case 1:
				m.spoil(&x.Term)
			case 2:
				m.spoil(&x.Then)
			case 3:
				x.Kind = m.Intn(10) - 1
			case 4:
				q.Items = slices.Insert(q.Items, m.Intn(len(q.Items)+1), wholeItem(m.Intn(8)))
			case 5:
				at := m.Intn(len(q.Items))
				q.Items = slices.Delete(q.Items, at, at+1)
			}
			if Policy(q) != plainPolicy(q) {
				t.Fatalf("%v: %t", q, Policy(q))
			}
			if want := reflect.DeepEqual(placeless(p), placeless(q)); SamePolicy(p, q) != want || SamePolicy(q, p) != want {
				t.Fatalf("%v and %v: %t", p, q, SamePolicy(p, q))
			}
		}
	}
}

func TestP12RandomPairs(t *testing.T) {
	m := maker{rand.New(rand.NewSource(122))}
	same := 0
	for range 50000 {
		a := m.expression(3)
		b := twin(a)
		m.spoil(&b)
		want := reflect.DeepEqual(placelessTerm(a), placelessTerm(b))
		if Same(a, b) != want || Same(b, a) != want {
			t.Fatalf("%v and %v: %t, %t", a, b, Same(a, b), Same(b, a))
		}
		if want {
			same++
		}
		if bare := Bare(b); !reflect.DeepEqual(bare, placelessTerm(b)) {
			t.Fatalf("Bare(%v) = %v", b, bare)
		}
	}
	if same < 1000 {
		t.Error("hardly any are the same:", same)
	}
}

// placelessTerm answers t with every At 0, and nil for lists of no elements.
func placelessTerm(t api.Term) api.Term {
	made := api.Term{Kind: t.Kind, Text: t.Text, N: t.N, M: t.M}
	for _, part := range t.Parts {
		made.Parts = append(made.Parts, placelessTerm(part))
	}
	return made
}

// placeless answers p with every At 0, and nil for lists of no elements.
func placeless(p api.Policy) api.Policy {
	made := api.Policy{Name: p.Name}
	for _, x := range p.Items {
		x.At, x.Term, x.Then = 0, placelessTerm(x.Term), placelessTerm(x.Then)
		made.Items = append(made.Items, x)
	}
	return made
}
