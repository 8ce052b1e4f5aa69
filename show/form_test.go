package show

import (
	"go/ast"
	"go/parser"
	"go/token"
	"math"
	"path/filepath"
	"slices"
	"strconv"
	"strings"
	"testing"
	"unsafe"

	"capstan/api"
	"capstan/tree"
)

// changed answers t as change makes it, in memory of its own.
func changed(t api.Term, change func(*api.Term)) api.Term {
	t.Parts = slices.Clone(t.Parts)
	change(&t)
	return t
}

// unformed answers terms that are no formed expressions, each way in which one isn't.
func unformed() []api.Term {
	a := name("a")
	list := []api.Term{{}, {Text: "a"}, hold(), of(api.KTo, a), of(api.KBy, a), of(api.KLadder, a, hold())}
	for _, kind := range []int{0, -1, 33, 34, 35, 36, 37, 100, math.MinInt, math.MaxInt} {
		list = append(list, of(kind), of(kind, a), of(kind, a, a), of(kind, a, a, a))
	}
	noName := []string{"", "min", "policy", "1a", "a b", "a-b", " a", "日", "×", "\xff", "a\n", strings.Repeat("a", 33)}
	noText := []string{"\"", "\n", "\x00", "\x7f", "\ufeff", "\xff", "a\xc3", strings.Repeat("a", 65), strings.Repeat("日", 65)}
	for kind, x := range alone() {
		for count := range 6 { // of parts: one more and one less too
			if count != arity(kind) {
				list = append(list, changed(x.term, func(t *api.Term) { t.Parts = slices.Repeat([]api.Term{a}, count) }))
			}
		}
		list = append(list, changed(x.term, func(t *api.Term) { t.M = -1 }), changed(x.term, func(t *api.Term) { t.N = -1 }))
		if kind != api.KRank {
			list = append(list, changed(x.term, func(t *api.Term) { t.M = 1 }))
		}
		texts := noName
		switch {
		case kind == api.KNum:
			texts = append(noText, "[", "]", "a]b")
		case kind == api.KCron:
			texts = noText
		case kind == api.KName:
		case kind >= api.KSum && kind <= api.KRank:
			list = append(list, changed(x.term, func(t *api.Term) { t.N = 0 }), changed(x.term, func(t *api.Term) { t.N = api.MaxSpan + 1 }), changed(x.term, func(t *api.Term) { t.N = math.MaxInt64 }))
		default:
			texts = []string{"a", " ", "s"}
		}
		if kind != api.KNum && (kind < api.KSum || kind > api.KRank) {
			list = append(list, changed(x.term, func(t *api.Term) { t.N = 1 }))
		}
		for _, text := range texts {
			list = append(list, changed(x.term, func(t *api.Term) { t.Text = text }))
		}
	}
	return list
}

func TestP14_1WhatIsNotFormed(t *testing.T) {
	for _, x := range unformed() {
		refused(t, x, api.ErrForm)
		for kind := range patterns { // as each part of each kind
			for place := range arity(kind) {
				outer, _ := put(kind, place, x, api.KName, "")
				refused(t, outer, api.ErrForm)
			}
		}
		refused(t, of(api.KAbs, of(api.KMul, name("a"), of(api.KNeg, x))), api.ErrForm)
	}
}

func TestP14_1PoliciesThatAreNotFormed(t *testing.T) {
	end := decide(hold())
	a := name("a")
	policyRefused(t, api.Policy{}, api.ErrForm)
	policyRefused(t, policy(), api.ErrForm)
	for _, bad := range []string{"", "min", "policy", "1a", "a b", strings.Repeat("a", 33), "\xff"} {
		policyRefused(t, api.Policy{Name: bad, Items: []api.Item{end}}, api.ErrForm)
	}
	unformedItems := []api.Item{{}, {Kind: -1}, {Kind: 8}, {Kind: math.MaxInt}, end}
	for _, bad := range []string{"", "min", "1a"} {
		unformedItems = append(unformedItems, api.Item{Kind: api.IMetric, Name: bad}, api.Item{Kind: api.ILet, Name: bad, Term: a})
	}
	for _, bad := range []string{"[", "]", "\"", "\n", "\xff", strings.Repeat("a", 65)} {
		unformedItems = append(unformedItems, api.Item{Kind: api.IMetric, Name: "a", Unit: bad})
	}
	for _, n := range []int64{-1, math.MinInt64} {
		unformedItems = append(unformedItems, api.Item{Kind: api.IReplicas, A: n}, api.Item{Kind: api.IReplicas, B: n}, api.Item{Kind: api.IReplicas, C: n})
	}
	for _, n := range []int64{math.MinInt64, -1, 0, api.MaxSpan + 1, math.MaxInt64} {
		unformedItems = append(unformedItems, api.Item{Kind: api.IUp, A: n}, api.Item{Kind: api.IDown, A: n})
	}
	for _, x := range unformed() {
		unformedItems = append(unformedItems, api.Item{Kind: api.ILet, Name: "x", Term: x}, api.Item{Kind: api.IGuard, Term: x, Then: hold()},
			api.Item{Kind: api.IGuard, Term: a, Then: of(api.KTo, x)}, api.Item{Kind: api.IGuard, Term: a, Then: of(api.KBy, x)},
			api.Item{Kind: api.IGuard, Term: a, Then: of(api.KLadder, x, hold())}, api.Item{Kind: api.IGuard, Term: a, Then: of(api.KLadder, a, x, hold(), hold())})
	}
	for _, item := range unformedItems {
		policyRefused(t, policy(item, end), api.ErrForm)
		policyRefused(t, policy(api.Item{Kind: api.IUp, A: 1}, item, api.Item{Kind: api.IUp, A: 1}, end), api.ErrForm)
	}
	policyRefused(t, policy(end, api.Item{Kind: api.IUp, A: 1}), api.ErrForm)
	policyRefused(t, policy(api.Item{Kind: api.IUp, A: 1}), api.ErrForm)
	policyRefused(t, policy(end, end), api.ErrForm)
}

func TestP14_1ActionsThatAreNotFormed(t *testing.T) {
	a, one := name("a"), number(1, "")
	for _, action := range []api.Term{
		{}, a, of(api.KTrue), of(api.KHold, a), of(api.KTo), of(api.KTo, a, a), of(api.KTo, hold()), of(api.KBy), of(api.KBy, a, a), of(api.KBy, of(api.KTo, a)),
		of(api.KLadder), of(api.KLadder, a), of(api.KLadder, hold()), of(api.KLadder, a, a), of(api.KLadder, hold(), hold()), of(api.KLadder, a, one, hold()), of(api.KLadder, a, hold(), hold()),
		of(api.KLadder, a, a, hold(), hold()), of(api.KLadder, a, hold(), one, hold()), of(api.KLadder, a, one, one, hold()), of(api.KLadder, a, one, hold(), one), of(api.KLadder, a, one, hold(), one, hold()),
		of(api.KLadder, a, of(api.KNeg, of(api.KNeg, one)), hold(), hold()), of(api.KLadder, a, of(api.KNeg, a), hold(), hold()), of(api.KLadder, a, number(-1, ""), hold(), hold()), of(api.KLadder, a, of(api.KAdd, one, one), hold(), hold()),
		{Kind: api.KHold, Text: "a"}, {Kind: api.KHold, N: 1}, {Kind: api.KHold, M: 1}, {Kind: api.KTo, Text: "a", Parts: []api.Term{a}}, {Kind: api.KBy, N: 1, Parts: []api.Term{a}}, {Kind: api.KLadder, M: 1, Parts: []api.Term{a, hold()}},
	} {
		policyRefused(t, policy(decide(action)), api.ErrForm)
		policyRefused(t, policy(api.Item{Kind: api.IGuard, Term: a, Then: action}, decide(hold())), api.ErrForm)
		policyRefused(t, policy(decide(of(api.KLadder, a, action))), api.ErrForm)
		policyRefused(t, policy(decide(of(api.KLadder, a, one, action, hold()))), api.ErrForm)
	}
}

func TestP14_1ItemsWithFieldsOfOthers(t *testing.T) {
	p, _ := all()
	for i, whole := range p.Items {
		for field, change := range map[string]func(*api.Item){
			"Name": func(x *api.Item) { x.Name = "a" }, "Unit": func(x *api.Item) { x.Unit = "s" }, "A": func(x *api.Item) { x.A = 1 }, "B": func(x *api.Item) { x.B = 1 }, "C": func(x *api.Item) { x.C = 1 },
			"Term": func(x *api.Item) { x.Term = name("a") }, "Then": func(x *api.Item) { x.Then = hold() },
		} {
			own := map[int]string{api.IMetric: "Name Unit", api.IReplicas: "A B C", api.IUp: "A", api.IDown: "A", api.ILet: "Name Term", api.IGuard: "Term Then", api.IDecide: "Then"}[whole.Kind]
			if slices.Contains(strings.Fields(own), field) {
				continue
			}
			q := tree.BarePolicy(p)
			change(&q.Items[i])
			policyRefused(t, q, api.ErrForm)
		}
	}
}

// placed answers t with places that count from first on.
func placed(t api.Term, first, step int) api.Term {
	t.At = first
	parts := slices.Clone(t.Parts)
	for i := range parts {
		parts[i] = placed(parts[i], first+step*(i+1), step)
	}
	t.Parts = parts
	return t
}

func TestP14_2OneTextWhateverItsPlaces(t *testing.T) {
	for outer := range patterns {
		for kind, x := range alone() {
			term, text := put(outer, 0, x.term, kind, x.text)
			for _, first := range []int{0, -1, 7, math.MaxInt, math.MinInt} {
				shows(t, placed(term, first, 0), text)
				shows(t, placed(term, first, 3), text)
			}
		}
	}
	p, text := all()
	for _, first := range []int{0, -1, 7, math.MaxInt, math.MinInt} {
		q := tree.BarePolicy(p)
		for i := range q.Items {
			item := &q.Items[i]
			item.At = first
			if item.Term.Kind != 0 {
				item.Term = placed(item.Term, first, 5)
			}
			if item.Then.Kind != 0 {
				item.Then = placed(item.Then, first, -5)
			}
		}
		showsPolicy(t, q, text)
	}
}

// spare answers t with room behind each list of parts, in which a name stands.
func spare(t api.Term) api.Term {
	room := make([]api.Term, len(t.Parts)+1)
	for i, part := range t.Parts {
		room[i] = spare(part)
	}
	room[len(t.Parts)] = name("spare")
	t.Parts = room[:len(t.Parts)]
	return t
}

// untouched answers whether t, which spare made, is as want, field by field, its spare room too.
func untouched(t, want api.Term) bool {
	if t.Kind != want.Kind || t.Text != want.Text || t.N != want.N || t.M != want.M || t.At != want.At || len(t.Parts) != len(want.Parts) {
		return false
	}
	room := t.Parts[:len(t.Parts)+1]
	if !tree.Same(room[len(t.Parts)], name("spare")) {
		return false
	}
	for i, part := range t.Parts {
		if !untouched(part, want.Parts[i]) {
			return false
		}
	}
	return true
}

func TestP14_1WhatIsHandedInStaysAsItWas(t *testing.T) {
	terms := append(unformed(), brackets(10), brackets(65), long(300), wide(5000))
	for _, x := range alone() {
		terms = append(terms, x.term, of(api.KNeg, x.term))
	}
	for _, x := range terms {
		given := spare(x)
		Expr(given)
		if !untouched(given, x) {
			t.Errorf("%s was %s", brief(given), brief(x))
		}
	}
	p, _ := all()
	given := api.Policy{Name: p.Name, Items: make([]api.Item, len(p.Items)+1)}
	for i, item := range p.Items {
		item.Term, item.Then = spare(item.Term), spare(item.Then)
		given.Items[i] = item
	}
	given.Items[len(p.Items)].Name = "spare"
	given.Items = given.Items[:len(p.Items)]
	Policy(given)
	if given.Name != p.Name || len(given.Items) != len(p.Items) || given.Items[:len(p.Items)+1][len(p.Items)].Name != "spare" {
		t.Error(given)
	}
	for i, item := range given.Items {
		if !untouched(item.Term, p.Items[i].Term) || !untouched(item.Then, p.Items[i].Then) {
			t.Error(item)
		}
		item.Term, item.Then = p.Items[i].Term, p.Items[i].Then
		if !tree.SamePolicy(api.Policy{Items: []api.Item{item}}, api.Policy{Items: p.Items[i : i+1]}) || item.At != p.Items[i].At {
			t.Error(item)
		}
	}
}

func TestP14_1TheTextIsNewMemory(t *testing.T) {
	for range 3 {
		text := strings.Repeat("ab", 16)
		first, _ := Expr(name(text))
		second, _ := Expr(name(text))
		if first != text || second != text || unsafe.StringData(first) == unsafe.StringData(text) || unsafe.StringData(first) == unsafe.StringData(second) {
			t.Error(first, second)
		}
	}
}

func TestP14_1KeepsNothing(t *testing.T) {
	p, text := all()
	for range 3 {
		refused(t, brackets(65), api.ErrDeep)
		showsPolicy(t, p, text)
		refused(t, long(api.MaxTokens+1), api.ErrLarge)
		shows(t, name("a"), "a")
		refused(t, wide(api.MaxSource+1), api.ErrLong)
		policyRefused(t, policy(), api.ErrForm)
		taken(t, long(api.MaxTokens))
		taken(t, brackets(64))
	}
}

// sources answers the package's files, without its tests.
func sources(t *testing.T) []*ast.File {
	t.Helper()
	names, err := filepath.Glob("*.go")
	if err != nil {
		t.Fatal(err)
	}
	var list []*ast.File
	for _, name := range names {
		if strings.HasSuffix(name, "_test.go") {
			continue
		}
		file, err := parser.ParseFile(token.NewFileSet(), name, nil, 0)
		if err != nil {
			t.Fatal(err)
		}
		list = append(list, file)
	}
	return list
}

func TestCallsOnlyTheLayersBelow(t *testing.T) {
	for _, file := range sources(t) {
		for _, spec := range file.Imports {
			path, _ := strconv.Unquote(spec.Path.Value)
			if !slices.Contains([]string{"strings", "capstan/api", "capstan/num", "capstan/lex", "capstan/tree"}, path) {
				t.Errorf("%s is imported", path)
			}
		}
	}
}

func TestABuilderIsEmbedded(t *testing.T) {
	found := false
	for _, file := range sources(t) {
		ast.Inspect(file, func(n ast.Node) bool {
			if x, ok := n.(*ast.StructType); ok {
				for _, field := range x.Fields.List {
					selected, ok := field.Type.(*ast.SelectorExpr)
					found = found || ok && len(field.Names) == 0 && selected.Sel.Name == "Builder"
				}
			}
			return true
		})
	}
	if !found {
		t.Error("no struct embeds a builder")
	}
}
