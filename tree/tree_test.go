package tree

import (
	"go/parser"
	"go/token"
	"math"
	"path/filepath"
	"reflect"
	"slices"
	"strconv"
	"strings"
	"testing"
	"unsafe"

	"capstan/api"
)

func TestP12_2Examples(t *testing.T) {
	x := of(api.KAdd, name("a"), of(api.KMul, name("b"), name("a")))
	if Nodes(x) != 5 {
		t.Error(Nodes(x))
	}
	if list := Names(x); !slices.Equal(list, []string{"a", "b"}) {
		t.Error(list)
	}
}

func TestP12_2Nodes(t *testing.T) {
	for _, x := range []struct {
		t    api.Term
		want int
	}{
		{api.Term{}, 1}, {name("a"), 1}, {api.Term{Kind: -1, Parts: []api.Term{}}, 1}, {of(99, api.Term{}), 2}, {of(api.KHold, name("a"), name("b"), name("c"), name("d")), 5},
		{whole(api.KLadder), 10}, {of(api.KNum, of(api.KNum, of(api.KNum))), 3}, {of(0, of(0, api.Term{}, api.Term{}), api.Term{}, of(0, api.Term{})), 7},
	} {
		if Nodes(x.t) != x.want {
			t.Errorf("%v: %d, wanted %d", x.t, Nodes(x.t), x.want)
		}
	}
}

// flat answers a node with that many parts.
func flat(parts int) api.Term {
	return api.Term{Kind: 99, Parts: make([]api.Term, parts)}
}

func TestP12_2ManyNodes(t *testing.T) {
	for _, n := range []int{1, 2, 3, 100, 16382, 16383, 16384, 16385, 16386, 16387, 1 << 15, 1 << 16} {
		want := min(n, 16385)
		trees := map[string]api.Term{"deep": deep(n, name("a")), "deep, not formed": deep(n, api.Term{}), "flat": flat(n - 1)}
		if n%2 == 1 {
			trees["wide"] = wide(n)
		}
		if n > 3 {
			trees["flat, then deep"] = of(99, flat(n/2-1), deep(n-n/2-1, name("a")))
			trees["deep, then flat"] = of(99, deep(n/2, name("a")), flat(n-n/2-2))
			trees["all in a chain"] = deep(n/2, flat(n-n/2))
		}
		for form, x := range trees {
			if Nodes(x) != want {
				t.Errorf("%d, %s: %d", n, form, Nodes(x))
			}
		}
	}
	if Nodes(flat(1<<22)) != 16385 {
		t.Error("2^22 parts")
	}
	x := flat(1 << 8)
	for range 20 { // each level has the one below 256 times
		parts := slices.Repeat([]api.Term{x}, 1<<8)
		x = api.Term{Parts: parts}
	}
	if Nodes(x) != 16385 {
		t.Error(Nodes(x))
	}
}

func TestP12_2Same(t *testing.T) {
	for kind := -1; kind <= 38; kind++ {
		x := api.Term{Kind: kind, Text: "a\xff", N: -1, M: 7, At: 3}
		if kind >= 1 && kind <= 36 {
			x = whole(kind)
		}
		if !Same(x, x) || !Same(x, twin(x)) || !Same(Bare(x), x) {
			t.Error(x)
		}
		for field, change := range map[string]func(*api.Term){
			"Kind": func(x *api.Term) { x.Kind++ }, "Text": func(x *api.Term) { x.Text += "b" }, "N": func(x *api.Term) { x.N++ }, "M": func(x *api.Term) { x.M-- },
			"more": func(x *api.Term) { x.Parts = append(x.Parts[:len(x.Parts):len(x.Parts)], api.Term{}) }, "twice": func(x *api.Term) { x.Parts = append(twin(*x).Parts, *x) },
		} {
			for _, wrap := range wraps() {
				y := twin(x)
				change(&y)
				if a, b := wrap(x), wrap(y); Same(a, b) || Same(b, a) {
					t.Errorf("%d: %s", kind, field)
				}
			}
		}
		for _, at := range []int{0, 1, -1, math.MaxInt, math.MinInt} {
			for _, wrap := range wraps() {
				y := twin(x)
				y.At = at
				if a, b := wrap(x), wrap(y); !Same(a, b) || !Same(b, a) {
					t.Errorf("%d: At", kind)
				}
			}
		}
		for i := range x.Parts {
			if Same(x, without(x, i)) || Same(without(x, i), x) || Same(x, with(x, i, api.Term{})) {
				t.Error(kind, i)
			}
		}
	}
}

// wraps put a term into another, in some place; the first leaves it as it is.
func wraps() []func(api.Term) api.Term {
	return []func(api.Term) api.Term{
		func(x api.Term) api.Term { return x },
		func(x api.Term) api.Term { return of(api.KNeg, x) },
		func(x api.Term) api.Term { return of(api.KIf, name("a"), name("b"), x) },
		func(x api.Term) api.Term { return of(99, x, name("a"), name("b"), name("c")) },
		func(x api.Term) api.Term { return of(0, name("a"), of(0, of(api.KLadder, name("b"), x), name("c"))) },
	}
}

func TestP12_2SameOfUnlikeTrees(t *testing.T) {
	a, b := name("a"), name("b")
	for _, x := range [][2]api.Term{
		{of(api.KAdd, a, b), of(api.KAdd, b, a)}, {of(api.KAdd, a, of(api.KAdd, a, b)), of(api.KAdd, of(api.KAdd, a, a), b)}, {of(0, of(0, a), b), of(0, of(0, a, b))}, {of(0, a, b), of(0, a)}, {of(0), of(0, api.Term{})},
		{of(0, api.Term{}), of(0, api.Term{}, api.Term{})}, {num(1, "s"), num(1, "")}, {name("é"), name("e\u0301")}, {name("a"), name("A")}, {num(math.MaxInt64, ""), num(math.MinInt64, "")}, {{N: 1}, {M: 1}},
	} {
		if Same(x[0], x[1]) || Same(x[1], x[0]) {
			t.Error(x)
		}
	}
	if !Same(api.Term{}, api.Term{Parts: []api.Term{}}) || !Same(api.Term{}, api.Term{Parts: make([]api.Term, 0, 5), At: 9}) {
		t.Error("no parts")
	}
	for _, n := range []int{16384, 16385, 1 << 16} {
		if !Same(deep(n, a), deep(n, a)) || Same(deep(n, a), deep(n, b)) || Same(deep(n, a), deep(n+1, a)) || !Same(flat(n), flat(n)) || Same(flat(n), flat(n+1)) || !Same(wide(n|1), wide(n|1)) {
			t.Error(n)
		}
	}
}

func TestP12_2SamePolicy(t *testing.T) {
	p := policy()
	for kind := 8; kind >= 0; kind-- {
		p.Items = append(p.Items, wholeItem(kind))
	}
	differs := func(what string, change func(q *api.Policy)) {
		t.Helper()
		q := twinPolicy(p)
		change(&q)
		if SamePolicy(p, q) || SamePolicy(q, p) {
			t.Error(what)
		}
	}
	if !SamePolicy(p, p) || !SamePolicy(p, twinPolicy(p)) || !SamePolicy(p, BarePolicy(p)) {
		t.Error("itself")
	}
	differs("Name", func(q *api.Policy) { q.Name += "1" })
	differs("no items", func(q *api.Policy) { q.Items = nil })
	differs("one item more", func(q *api.Policy) { q.Items = append(q.Items, api.Item{}) })
	for i := range p.Items {
		differs("one item less", func(q *api.Policy) { q.Items = slices.Delete(q.Items, i, i+1) })
		differs("Kind", func(q *api.Policy) { q.Items[i].Kind++ })
		differs("Name", func(q *api.Policy) { q.Items[i].Name += "1" })
		differs("Unit", func(q *api.Policy) { q.Items[i].Unit += "1" })
		differs("A", func(q *api.Policy) { q.Items[i].A++ })
		differs("B", func(q *api.Policy) { q.Items[i].B++ })
		differs("C", func(q *api.Policy) { q.Items[i].C-- })
		differs("Term", func(q *api.Policy) { q.Items[i].Term.N++ })
		differs("Then", func(q *api.Policy) { q.Items[i].Then.N++ })
		differs("Term.Kind", func(q *api.Policy) { q.Items[i].Term.Kind-- })
		differs("Then.Parts", func(q *api.Policy) { q.Items[i].Then.Parts = append(q.Items[i].Then.Parts, api.Term{}) })
		q := twinPolicy(p)
		q.Items[i].At, q.Items[i].Term.At, q.Items[i].Then.At = -5, math.MaxInt, math.MinInt
		if !SamePolicy(p, q) || !SamePolicy(q, p) {
			t.Error("At", i)
		}
	}
	differs("in another order", func(q *api.Policy) { slices.Reverse(q.Items) })
	if !SamePolicy(api.Policy{}, api.Policy{Items: []api.Item{}}) || SamePolicy(api.Policy{}, api.Policy{Name: "p"}) || SamePolicy(api.Policy{}, api.Policy{Items: make([]api.Item, 1)}) {
		t.Error("no items")
	}
	if !SamePolicy(api.Policy{Items: []api.Item{{}}}, api.Policy{Items: []api.Item{{At: 1, Term: api.Term{At: 2}, Then: api.Term{At: 3, Parts: []api.Term{}}}}}) {
		t.Error("places alone")
	}
}

func TestP12_3Names(t *testing.T) {
	a, b, c := name("a"), name("b"), name("c")
	for _, x := range []struct {
		t    api.Term
		want []string
	}{
		{api.Term{}, nil}, {num(1, "a"), nil}, {api.Term{Kind: api.KCron, Text: "a"}, nil}, {api.Term{Kind: api.KSum, Text: "cpu", N: 60}, nil}, {api.Term{Kind: 99, Text: "a"}, nil},
		{a, []string{"a"}}, {of(api.KAdd, a, a), []string{"a"}}, {of(api.KAdd, b, a), []string{"b", "a"}}, {of(api.KAdd, a, of(api.KMul, b, a)), []string{"a", "b"}},
		{of(api.KIf, c, of(api.KNeg, b), of(api.KAdd, a, c)), []string{"c", "b", "a"}},
		{of(api.KMul, of(api.KAdd, c, b), a), []string{"c", "b", "a"}}, // by the nodes' order, not level by level
		{of(api.KLadder, a, num(1, ""), of(api.KTo, c), of(api.KBy, b)), []string{"a", "c", "b"}},
		{of(99, b, of(-1, a), of(0, of(0, c)), b), []string{"b", "a", "c"}}, // whatever isn't formed
		{name(""), []string{""}}, {of(0, name("min"), name("\xff"), name(""), name("min")), []string{"min", "\xff", ""}},
		{api.Term{Kind: api.KName, Text: "a", Parts: []api.Term{b, a, c}}, []string{"a", "b", "c"}},
		{of(0, num(1, "a"), a, api.Term{Kind: api.KSum, Text: "b"}, b), []string{"a", "b"}},
		{of(0, name("A"), a, name("é"), name("e\u0301")), []string{"A", "a", "é", "e\u0301"}},
	} {
		if list := Names(x.t); !slices.Equal(list, x.want) {
			t.Errorf("%v: %q, wanted %q", x.t, list, x.want)
		}
	}
}

func TestP12_3ManyNames(t *testing.T) {
	const count = 1 << 17 // more than a policy may have nodes, and each twice
	x := of(0)
	var want []string
	for i := range count {
		text := "n" + strconv.Itoa(i*7919%count)
		want = append(want, text)
		x.Parts = append(x.Parts, name(text))
	}
	x.Parts = append(x.Parts, slices.Clone(x.Parts)...)
	if list := Names(x); !slices.Equal(list, want) {
		t.Error(len(list))
	}
	if list := Names(deep(1<<16, name("z"))); !slices.Equal(list, []string{"z"}) {
		t.Error(list)
	}
}

// literalIs wants that number, unit and true.
func literalIs(t *testing.T, x api.Term, n int64, unit string) {
	t.Helper()
	if got, text, ok := Literal(x); got != n || text != unit || !ok {
		t.Errorf("Literal(%v) = %d, %q, %t, wanted %d, %q", x, got, text, ok, n, unit)
	}
}

// noLiteral wants 0, "" and false.
func noLiteral(t *testing.T, x api.Term) {
	t.Helper()
	if n, unit, ok := Literal(x); n != 0 || unit != "" || ok {
		t.Errorf("Literal(%.300v) = %d, %q, %t", x, n, unit, ok)
	}
}

func TestP12_4Literal(t *testing.T) {
	for _, n := range []int64{0, 1, 5000000, math.MaxInt64 - 1, math.MaxInt64} {
		for _, unit := range []string{"", "s", "req/s", "no unit at all", "é", strings.Repeat("日", 64)} {
			x := num(n, unit)
			x.At = 7
			literalIs(t, x, n, unit)
			literalIs(t, of(api.KNeg, x), -n, unit)
			noLiteral(t, of(api.KNeg, of(api.KNeg, x)))
			noLiteral(t, of(api.KNeg, of(api.KNeg, of(api.KNeg, x))))
			noLiteral(t, of(api.KNeg, x, x))
			noLiteral(t, of(api.KNeg))
			for kind := api.KNot; kind <= api.KLadder; kind++ {
				noLiteral(t, of(kind, x))
				noLiteral(t, of(kind, x, x))
				noLiteral(t, of(kind, of(api.KNeg, x)))
			}
			noLiteral(t, num(-n-1, unit))
			noLiteral(t, of(api.KNeg, num(-n-1, unit)))
			noLiteral(t, changed(x, func(x *api.Term) { x.M = 1 }))
			noLiteral(t, changed(x, func(x *api.Term) { x.Parts = []api.Term{*x} }))
			noLiteral(t, of(api.KNeg, changed(x, func(x *api.Term) { x.M = -1 })))
			noLiteral(t, of(api.KNeg, changed(x, func(x *api.Term) { x.Parts = []api.Term{*x} })))
			noLiteral(t, of(api.KNeg, num(n, unit+"]")))
			noLiteral(t, num(n, unit+"\n"))
			noLiteral(t, api.Term{Kind: api.KNeg, N: 1, Parts: []api.Term{x}})
			noLiteral(t, api.Term{Kind: api.KNeg, M: 1, Parts: []api.Term{x}})
			noLiteral(t, api.Term{Kind: api.KNeg, Text: "s", Parts: []api.Term{x}})
		}
	}
	noLiteral(t, api.Term{})
	for kind := api.KName; kind <= api.KLadder; kind++ {
		if kind != api.KNeg {
			noLiteral(t, whole(kind))
			noLiteral(t, of(api.KNeg, whole(kind)))
		}
	}
	noLiteral(t, num(1, strings.Repeat("a", 65)))
	noLiteral(t, deep(1<<16, num(1, "")))
}

func TestP12_5Examples(t *testing.T) {
	x := of(api.KAdd, name("a"), name("b"))
	if list, errno := Open(x, api.KAdd); errno != api.OK || !equal(list, []api.Term{name("a"), name("b")}) {
		t.Error(list, errno)
	}
	if list, errno := Open(x, api.KSub); errno != api.ErrForm || len(list) != 0 {
		t.Error(list, errno)
	}
}

func TestP12_5OpenEachKind(t *testing.T) {
	terms := []api.Term{of(api.KLadder, name("a"), of(api.KHold)), ladder(1), ladder(2), ladder(3), ladder(100), deep(1<<16, name("a")), of(api.KTo, deep(1<<15, name("a")))}
	for kind := api.KNum; kind <= api.KLadder; kind++ {
		terms = append(terms, whole(kind))
	}
	for _, x := range terms {
		for _, kind := range append([]int{-1, 0, 37, 99, math.MaxInt, math.MinInt, 1<<32 + x.Kind}, seq(1, 36)...) {
			list, errno := Open(x, kind)
			if kind == x.Kind && (errno != api.OK || !equal(list, x.Parts)) {
				t.Errorf("%d: %v, %d", kind, list, errno)
			}
			if kind != x.Kind && (errno != api.ErrForm || len(list) != 0) {
				t.Errorf("%d as %d: %v, %d", x.Kind, kind, list, errno)
			}
		}
	}
}

func seq(first, last int) []int {
	var list []int
	for i := first; i <= last; i++ {
		list = append(list, i)
	}
	return list
}

func TestP12_5OpenOfAnyNumberOfParts(t *testing.T) {
	// Each kind with each number of parts, formed and not: the most of them aren't what the kind must be.
	for kind := -2; kind <= 40; kind++ {
		for parts := range 9 {
			for _, part := range []api.Term{{}, name("a"), num(1, ""), of(api.KHold)} {
				x := of(kind, slices.Repeat([]api.Term{part}, parts)...)
				for _, asked := range append([]int{kind}, seq(-2, 40)...) {
					list, errno := Open(x, asked)
					if asked == kind && (plainFormed(x) || plainAction(x)) {
						if errno != api.OK || !equal(list, x.Parts) {
							t.Errorf("%v as %d: %v, %d", x, asked, list, errno)
						}
					} else if errno != api.ErrForm || len(list) != 0 {
						t.Errorf("%v as %d: %v, %d", x, asked, list, errno)
					}
				}
			}
		}
	}
}

func TestP12_5OpenOfWhatIsNotFormed(t *testing.T) {
	for _, x := range []api.Term{{}, num(-1, ""), name("min"), of(api.KAdd), of(api.KAdd, name("a")), of(api.KAdd, name("a"), name("b"), name("c")), of(api.KNeg), of(api.KIf, name("a"), name("b")), of(api.KTo), of(api.KTo, of(api.KHold)),
		of(api.KHold, name("a")), of(api.KLadder), of(api.KLadder, name("a")), of(api.KLadder, name("a"), name("b")), of(api.KLadder, name("a"), num(1, ""), of(api.KHold)), of(api.KTrue, name("a")), {Kind: api.KTrue, N: 1},
		of(api.KAdd, name("a"), num(-1, "")), of(api.KMin, of(api.KMin, name("a"), name("")), name("b")), {Kind: 99}, {Kind: -1}, deep(1<<16, api.Term{}), flat(1 << 20)} {
		for _, kind := range append([]int{x.Kind}, seq(-2, 40)...) {
			if list, errno := Open(x, kind); errno != api.ErrForm || len(list) != 0 {
				t.Errorf("Open(%.300v, %d) = %v, %d", x, kind, list, errno)
			}
		}
	}
}

func TestP12_6Bare(t *testing.T) {
	for kind := -1; kind <= 38; kind++ {
		x := api.Term{Kind: kind, Text: "a\xff", N: -1, M: math.MinInt64, Parts: []api.Term{whole(api.KAdd), {At: -1}, {Kind: 77, At: 5, Parts: []api.Term{whole(api.KLadder)}}}}
		if kind >= 1 && kind <= 36 {
			x = whole(kind)
		}
		for _, at := range []int{0, 1, -1, math.MaxInt, math.MinInt} {
			x.At = at
			bare := Bare(x)
			if !Same(bare, x) || !reflect.DeepEqual(bare, placelessTerm(x)) {
				t.Errorf("Bare(%v) = %v", x, bare)
			}
			for _, node := range order(bare) {
				if node.At != 0 {
					t.Error(kind, node)
				}
			}
		}
	}
	for _, x := range []api.Term{deep(1<<16, api.Term{At: 5}), flat(1 << 20), wide(99999)} {
		if !Same(Bare(x), x) {
			t.Error("large")
		}
	}
	if bare := Bare(api.Term{At: 3, Parts: []api.Term{}}); bare.At != 0 || len(bare.Parts) != 0 {
		t.Error(bare)
	}
}

func TestP12_6BarePolicy(t *testing.T) {
	p := api.Policy{Name: "not a name\xff"}
	for kind := -1; kind <= 9; kind++ {
		x := wholeItem(kind)
		if kind%2 == 0 { // and fields that it may not have
			x = api.Item{Kind: kind, Name: "a", Unit: "b", A: 1, B: -2, C: 3, Term: whole(api.KIf), Then: whole(api.KLadder), At: -9}
		}
		p.Items = append(p.Items, x, api.Item{Kind: kind, At: 3, Term: api.Term{At: 4}, Then: api.Term{At: 5}})
	}
	bare := BarePolicy(p)
	if !SamePolicy(bare, p) || !reflect.DeepEqual(bare, placeless(p)) {
		t.Error(bare)
	}
	for _, x := range bare.Items {
		if x.At != 0 || x.Term.At != 0 || x.Then.At != 0 {
			t.Error(x)
		}
	}
	for _, p := range []api.Policy{{}, {Name: "p"}, {Items: []api.Item{}}, policy(), policy(wholeItem(api.ILet), wholeItem(api.IGuard))} {
		if bare := BarePolicy(p); !reflect.DeepEqual(bare, placeless(p)) {
			t.Error(bare)
		}
	}
}

// spare answers t with room behind all of its lists of parts, in which something stands.
func spare(t api.Term) api.Term {
	parts := make([]api.Term, len(t.Parts)+3)
	for i := range parts {
		parts[i] = api.Term{Kind: -99, Text: "spare", At: i}
	}
	for i, part := range t.Parts {
		parts[i] = spare(part)
	}
	t.Parts = parts[:len(t.Parts)]
	return t
}

// untouched is whether t is as want, and its spare room is as spare made it.
func untouched(t, want api.Term) bool {
	if t.Kind != want.Kind || t.Text != want.Text || t.N != want.N || t.M != want.M || t.At != want.At || len(t.Parts) != len(want.Parts) {
		return false
	}
	room := t.Parts[:cap(t.Parts)]
	for i, part := range room {
		if i < len(want.Parts) && !untouched(part, want.Parts[i]) {
			return false
		}
		if i >= len(want.Parts) && (part.Kind != -99 || part.Text != "spare" || part.At != i) {
			return false
		}
	}
	return true
}

func TestWhatIsHandedInStaysAsItWas(t *testing.T) {
	terms := []api.Term{ladder(3), of(api.KIf, whole(api.KAdd), whole(api.KNeg), whole(api.KMul)), of(99, whole(api.KAdd), ladder(1)), of(api.KNeg, num(5, "s"))}
	for kind := api.KNum; kind <= api.KLadder; kind++ {
		terms = append(terms, whole(kind))
	}
	for _, want := range terms {
		x, y := spare(want), spare(want)
		p := api.Policy{Name: "p", Items: []api.Item{{Kind: api.IGuard, Term: x, Then: y, At: 8}, {Kind: api.IDecide, Then: x}}}
		q := api.Policy{Name: "p", Items: slices.Clone(p.Items)}
		Formed(x)
		Action(x)
		Policy(p)
		Nodes(x)
		Same(x, y)
		SamePolicy(p, q)
		Names(x)
		Literal(x)
		list, _ := Open(x, x.Kind)
		bare, bareItems := Bare(x), BarePolicy(p).Items
		// What was answered is written over, with its spare room: nothing of it may be seen elsewhere.
		overwrite(list)
		overwrite(bare.Parts)
		for _, item := range bareItems[:cap(bareItems)] {
			overwrite(item.Term.Parts)
			overwrite(item.Then.Parts)
		}
		clear(bareItems[:cap(bareItems)])
		if !untouched(x, want) || !untouched(y, want) || !reflect.DeepEqual(p, q) || p.Items[0].At != 8 {
			t.Errorf("%v is now %v", want, x)
		}
	}
}

// overwrite writes over all nodes of the list.
func overwrite(list []api.Term) {
	list = list[:cap(list)]
	for i := range list {
		overwrite(list[i].Parts)
		list[i] = api.Term{Kind: 1234, Text: "over", N: 5, M: 6, At: 7}
	}
}

func TestAnswersAreNewMemory(t *testing.T) {
	// One list stands in several places of what is handed in, but not in the answer.
	pair := []api.Term{name("a"), name("b")}
	add := api.Term{Kind: api.KAdd, Parts: pair}
	x := of(api.KIf, add, add, of(api.KMul, add, add))
	list, _ := Open(x, api.KIf)
	second, _ := Open(x, api.KIf)
	bare, bare2 := Bare(x), Bare(x)
	list[0].Parts[0].Text = "other"
	bare.Parts[0].Parts[0].Text = "other"
	bare.Parts[2].Parts[1].Parts[1].Text = "other"
	if list[1].Parts[0].Text != "a" || list[2].Parts[0].Parts[0].Text != "a" || !equal(second, x.Parts) || pair[0].Text != "a" {
		t.Error(list, second)
	}
	if bare.Parts[1].Parts[0].Text != "a" || bare.Parts[2].Parts[0].Parts[1].Text != "b" || !Same(bare2, x) || pair[1].Text != "b" {
		t.Error(bare, bare2)
	}
	p := api.Policy{Name: "p", Items: []api.Item{{Kind: api.IGuard, Term: add, Then: add}, {Kind: api.ILet, Term: add}}}
	q := BarePolicy(p)
	q.Items[0].Term.Parts[0].Text = "other"
	if q.Items[0].Then.Parts[0].Text != "a" || q.Items[1].Term.Parts[0].Text != "a" || pair[0].Text != "a" {
		t.Error(q)
	}
	names, again := Names(x), Names(x)
	names[0] = "other"
	if !slices.Equal(again, []string{"a", "b"}) || !slices.Equal(Names(x), again) {
		t.Error(again)
	}
	p.Items[0].Name, p.Items[0].Kind = "later", 5
	if q.Items[0].Name != "" || q.Items[0].Kind != api.IGuard {
		t.Error(q)
	}
}

// where answers where the text stands.
func where(text string) *byte { return unsafe.StringData(text) }

func TestTextsOfAnswersAreNewMemory(t *testing.T) {
	text := strings.Repeat("ab", 8)
	if _, unit, _ := Literal(num(1, text)); unit != text || where(unit) == where(text) {
		t.Error(unit)
	}
	if list := Names(of(api.KNeg, name(text))); list[0] != text || where(list[0]) == where(text) {
		t.Error(list)
	}
	if list, _ := Open(of(api.KNeg, name(text)), api.KNeg); list[0].Text != text || where(list[0].Text) == where(text) {
		t.Error(list)
	}
	if bare := Bare(of(api.KNeg, name(text))); bare.Parts[0].Text != text || where(bare.Parts[0].Text) == where(text) {
		t.Error(bare)
	}
	p := BarePolicy(api.Policy{Name: text, Items: []api.Item{{Name: text, Unit: text, Then: name(text)}}})
	for _, told := range []string{p.Name, p.Items[0].Name, p.Items[0].Unit, p.Items[0].Then.Text} {
		if told != text || where(told) == where(text) {
			t.Error(p)
		}
	}
}

func TestKeepsNothing(t *testing.T) {
	x := of(api.KAdd, name("a"), of(api.KNeg, num(5, "s")))
	for range 3 {
		if !Formed(x) || Action(x) || Nodes(x) != 4 || !slices.Equal(Names(x), []string{"a"}) {
			t.Error(x)
		}
		if list, errno := Open(x, api.KSub); errno != api.ErrForm || len(list) != 0 {
			t.Error(list, errno)
		}
		if list, errno := Open(x, api.KAdd); errno != api.OK || !equal(list, x.Parts) {
			t.Error(list, errno)
		}
		literalIs(t, x.Parts[1], -5, "s")
		if Nodes(flat(1<<15)) != api.MaxTokens+1 || len(Names(name("b"))) != 1 || Policy(api.Policy{}) {
			t.Error("another one")
		}
	}
}

func TestCallsOnlyTheLayersBelow(t *testing.T) {
	files, err := filepath.Glob("*.go")
	if err != nil || len(files) == 0 {
		t.Fatal(files, err)
	}
	for _, file := range files {
		if strings.HasSuffix(file, "_test.go") {
			continue
		}
		parsed, err := parser.ParseFile(token.NewFileSet(), file, nil, parser.ImportsOnly)
		if err != nil {
			t.Fatal(err)
		}
		for _, spec := range parsed.Imports {
			path, _ := strconv.Unquote(spec.Path.Value)
			if strings.HasPrefix(path, "capstan/") && !slices.Contains([]string{"capstan/api", "capstan/scan", "capstan/num", "capstan/lex"}, path) {
				t.Errorf("%s imports %s", file, path)
			}
		}
	}
}
