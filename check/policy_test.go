package check

import (
	"go/parser"
	"go/token"
	"math"
	"path/filepath"
	"reflect"
	"slices"
	"strconv"
	"strings"
	"testing"
	"unsafe"

	"capstan/api"
	"capstan/core"
	"capstan/parse"
	"capstan/tree"
)

// read answers the tree of a text that is a policy by the grammar.
func read(t *testing.T, s string) api.Policy {
	t.Helper()
	p, at, errno := parse.Policy(s)
	if errno != api.OK {
		t.Fatalf("%s: %d at %d", brief(s), errno, at)
	}
	return p
}

// rich is a policy that has something of everything.
const rich = `policy rich; metric cpu [pct]; replicas 2..40 step 4; metric lat [ms]; cooldown up 30s; let load = avg(cpu, 1m) * 2; let late = rank(lat, 5m, 95) > 1[s]; cooldown down 5m; ` +
	`guard late and cron("0 3 * * *") then to 1[rep]; guard not late or load = load then ladder load { -1[pct]: by -1[rep], 50[pct]: hold, else: to replicas }; ` +
	`decide ladder load + load { 1: hold, 2: by min(load, 1) * 1[rep], else: ladder high(lat, 1s) { 1[ms]: to 1[rep], else: by if(late, 1[rep], -1[rep]) } };`

func TestP16_1Rich(t *testing.T) {
	p := loaded(t, rich)
	if nodes(p) < 60 || len(p.Wins) != 10 || len(p.Crons) != 1 || p.Rules != (api.Rules{Min: 2, Max: 40, Step: 4, Up: 30, Down: 300}) {
		t.Error(nodes(p), len(p.Wins), p.Crons, p.Rules)
	}
}

func TestP16_1NotFormed(t *testing.T) {
	end := api.Item{Kind: api.IDecide, Then: api.Term{Kind: api.KHold}, At: 5}
	bounds := api.Item{Kind: api.IReplicas, A: 1000000, B: 9000000, At: 6}
	number := api.Term{Kind: api.KNum, N: 1000000, At: 7}
	with := func(items ...api.Item) api.Policy { return api.Policy{Name: "p", Items: items} }
	if _, at, errno := Policy(with(bounds, end)); at != 0 || errno != api.OK {
		t.Fatal(at, errno)
	}
	deep := number
	for range api.MaxTokens {
		deep = api.Term{Kind: api.KNeg, Parts: []api.Term{deep}}
	}
	for _, p := range []api.Policy{
		{}, {Name: "p"}, {Items: []api.Item{bounds, end}}, {Name: "min", Items: []api.Item{bounds, end}}, {Name: "1", Items: []api.Item{bounds, end}},
		with(bounds), with(end, bounds), with(bounds, end, end), with(api.Item{}, bounds, end), with(api.Item{Kind: 8}, bounds, end), with(api.Item{Kind: -1}, end),
		with(bounds, api.Item{Kind: api.IDecide}), with(bounds, api.Item{Kind: api.IDecide, Then: number}), with(bounds, api.Item{Kind: api.IDecide, Then: end.Then, Name: "a"}),
		with(api.Item{Kind: api.IReplicas, A: -1000000, B: 9000000}, end), with(api.Item{Kind: api.IReplicas, A: 1, B: 9, C: -1}, end), with(api.Item{Kind: api.IReplicas, B: 1000000, Unit: "s"}, end),
		with(api.Item{Kind: api.IUp}, bounds, end), with(api.Item{Kind: api.IDown, A: api.MaxSpan + 1}, bounds, end), with(api.Item{Kind: api.IUp, A: 1, B: 1}, bounds, end),
		with(api.Item{Kind: api.IMetric}, bounds, end), with(api.Item{Kind: api.IMetric, Name: "sum"}, bounds, end), with(api.Item{Kind: api.IMetric, Name: "a", Unit: "["}, bounds, end), with(api.Item{Kind: api.IMetric, Name: "a", Unit: strings.Repeat("s", 65)}, bounds, end),
		with(api.Item{Kind: api.ILet, Name: "a"}, bounds, end), with(api.Item{Kind: api.ILet, Name: "a", Term: end.Then}, bounds, end), with(api.Item{Kind: api.ILet, Term: number}, bounds, end),
		with(api.Item{Kind: api.IGuard, Term: number}, bounds, end), with(api.Item{Kind: api.IGuard, Then: end.Then}, bounds, end),
		with(bounds, api.Item{Kind: api.IDecide, Then: api.Term{Kind: api.KTo}}), with(bounds, api.Item{Kind: api.IDecide, Then: api.Term{Kind: api.KLadder, Parts: []api.Term{number}}}),
		with(bounds, api.Item{Kind: api.IDecide, Then: api.Term{Kind: api.KLadder, Parts: []api.Term{number, end.Then, number, end.Then}}}),
		with(bounds, api.Item{Kind: api.IDecide, Then: api.Term{Kind: api.KLadder, Parts: []api.Term{number, {Kind: api.KNeg, Parts: []api.Term{{Kind: api.KNeg, Parts: []api.Term{number}}}}, end.Then, end.Then}}}),
		with(bounds, api.Item{Kind: api.ILet, Name: "a", Term: deep}, end),
		// What is formed ahead of it has a fault of its own.
		with(bounds, bounds, api.Item{Kind: api.IMetric}, end), with(api.Item{Kind: api.IMetric, Name: "a", Unit: "sec", At: 3}, end, end),
	} {
		plan, at, errno := Policy(p)
		if at != 0 || errno != api.ErrForm || !reflect.DeepEqual(plan, api.Plan{}) {
			t.Errorf("%s: %s, %d at %d", brief(p), brief(plan), errno, at)
		}
	}
}

// A fault has the place that the tree says, whatever number that is.
func TestP16_1AnyPlaces(t *testing.T) {
	for _, at := range []int{0, 1, -1, 77, math.MaxInt, math.MinInt} {
		other := at ^ 1
		number, truth := api.Term{Kind: api.KNum, N: 1000000, At: other}, api.Term{Kind: api.KTrue, At: other}
		hold := api.Term{Kind: api.KHold, At: other}
		end, bounds := api.Item{Kind: api.IDecide, Then: hold, At: other}, api.Item{Kind: api.IReplicas, A: 1000000, B: 9000000, At: other}
		wrong := api.Term{Kind: api.KNot, At: at, Parts: []api.Term{number}}
		unit := api.Term{Kind: api.KNum, Text: "x", At: at}
		for _, c := range []struct {
			items []api.Item
			errno api.Errno
		}{
			{[]api.Item{{Kind: api.ILet, Name: "a", Term: wrong, At: other}, bounds, end}, api.ErrType},
			{[]api.Item{bounds, {Kind: api.IGuard, Term: truth, Then: api.Term{Kind: api.KTo, At: other, Parts: []api.Term{wrong}}, At: other}, end}, api.ErrType},
			{[]api.Item{bounds, {Kind: api.IGuard, Term: api.Term{Kind: api.KReplicas, At: at}, Then: hold, At: other}, end}, api.ErrType},
			{[]api.Item{bounds, {Kind: api.IReplicas, At: at}, end}, api.ErrTwice},
			{[]api.Item{{Kind: api.IReplicas, At: at}, end}, api.ErrRange},
			{[]api.Item{{Kind: api.IMetric, Name: "a", Unit: "x", At: at}, end}, api.ErrUnit},
			{[]api.Item{{Kind: api.IUp, A: 1, At: other}, {Kind: api.IUp, A: 2, At: at}, end}, api.ErrTwice},
			{[]api.Item{{Kind: api.IDown, A: 1, At: other}, {Kind: api.IUp, A: 2, At: other}, {Kind: api.IDown, A: 2, At: at}, end}, api.ErrTwice},
			{[]api.Item{{Kind: api.IDecide, Then: hold, At: at}}, api.ErrMissing},
			{[]api.Item{{Kind: api.IDecide, Then: api.Term{Kind: api.KBy, At: at, Parts: []api.Term{number}}, At: other}}, api.ErrDim},
			{[]api.Item{{Kind: api.IDecide, Then: api.Term{Kind: api.KLadder, At: at, Parts: []api.Term{truth, hold}}, At: other}}, api.ErrType},
			{[]api.Item{{Kind: api.IDecide, Then: api.Term{Kind: api.KLadder, At: other, Parts: []api.Term{number, unit, hold, hold}}, At: other}}, api.ErrUnit},
			{[]api.Item{{Kind: api.IDecide, Then: api.Term{Kind: api.KLadder, At: other, Parts: []api.Term{number, {Kind: api.KNeg, At: other, Parts: []api.Term{unit}}, hold, hold}}, At: other}}, api.ErrUnit},
			{[]api.Item{{Kind: api.IDecide, Then: api.Term{Kind: api.KLadder, At: other, Parts: []api.Term{number, number, hold, {Kind: api.KNeg, At: at, Parts: []api.Term{number}}, hold, hold}}, At: other}}, api.ErrLadder},
			{[]api.Item{{Kind: api.IDecide, Then: api.Term{Kind: api.KLadder, At: other, Parts: []api.Term{{Kind: api.KReplicas, At: other}, {Kind: api.KNeg, At: at, Parts: []api.Term{number}}, hold, hold}}, At: other}}, api.ErrDim},
		} {
			p := api.Policy{Name: "p", Items: c.items}
			plan, where, errno := Policy(p)
			if where != at || errno != c.errno || !reflect.DeepEqual(plan, api.Plan{}) {
				t.Errorf("%s: %s, %d at %d, wanted %d at %d", brief(p), brief(plan), errno, where, c.errno, at)
			}
		}
	}
}

// Deep and long trees that no text has are checked too.
func TestP16_1DeepAndLong(t *testing.T) {
	bounds := api.Item{Kind: api.IReplicas, A: 1000000, B: 9000000}
	end := api.Item{Kind: api.IDecide, Then: api.Term{Kind: api.KHold}}
	deep := api.Term{Kind: api.KReplicas}
	for i := range api.MaxTokens - 3 {
		deep = api.Term{Kind: api.KAbs, At: i + 1, Parts: []api.Term{deep}}
	}
	p := api.Policy{Name: "p", Items: []api.Item{bounds, {Kind: api.ILet, Name: "a", Term: deep}, end}}
	if _, at, errno := Policy(p); at != api.MaxCore || errno != api.ErrLarge {
		t.Error(at, errno)
	}
	fits := deep
	for fits.At >= api.MaxCore-2 {
		fits = fits.Parts[0]
	}
	p.Items[1] = api.Item{Kind: api.IGuard, Term: api.Term{Kind: api.KTrue}, Then: api.Term{Kind: api.KTo, Parts: []api.Term{fits}}}
	if plan, at, errno := Policy(p); errno != api.ErrLarge || at != 0 || nodes(plan) != 1 { // 4094 + 1 + 1, and one of end
		t.Error(at, errno)
	}
	p.Items[1].Then.Parts = fits.Parts
	if plan, at, errno := Policy(p); errno != api.OK || at != 0 || nodes(plan) != api.MaxCore || !core.Formed(plan) {
		t.Error(at, errno, nodes(plan))
	}
	p.Items = p.Items[:1]
	for i := range api.MaxTokens/2 - 1 {
		name := "n" + strconv.Itoa(i)
		before := api.Term{Kind: api.KReplicas}
		if i > 0 {
			before = api.Term{Kind: api.KName, Text: "n" + strconv.Itoa(i-1)}
		}
		if i%3 == 2 {
			before = api.Term{Kind: api.KAbs, Parts: []api.Term{before}}
		}
		p.Items = append(p.Items, api.Item{Kind: api.ILet, Name: name, Term: before})
	}
	last := api.Term{Kind: api.KName, Text: p.Items[len(p.Items)-1].Name}
	p.Items = append(p.Items, api.Item{Kind: api.IDecide, Then: api.Term{Kind: api.KTo, Parts: []api.Term{last}}})
	if plan, at, errno := Policy(p); errno != api.OK || at != 0 || nodes(plan) != 1+1+(api.MaxTokens/2-1)/3 {
		t.Error(at, errno, nodes(plan))
	}
}

// memory is where lists and names stand: of each first byte how many begin there.
type memory map[unsafe.Pointer]int

func keep[T any](m memory, list []T) {
	if cap(list) > 0 {
		m[unsafe.Pointer(unsafe.SliceData(list))]++
	}
}

func (m memory) name(s string) {
	keep(m, unsafe.Slice(unsafe.StringData(s), len(s)))
}

func (m memory) core(c api.Core) {
	keep(m, c.Parts)
	for _, part := range c.Parts {
		m.core(part)
	}
}

func (m memory) plan(p api.Plan) {
	keep(m, p.Metrics)
	for _, name := range p.Metrics {
		m.name(name)
	}
	keep(m, p.Wins)
	keep(m, p.Crons)
	keep(m, p.Guards)
	for _, g := range p.Guards {
		m.core(g.When)
		m.core(g.Then)
	}
	m.core(p.Final)
}

func TestP16_1NothingIsShared(t *testing.T) {
	lets := "let x = 1 + 1; let y = x + x; let z = y * y + sum(m, 1s); let yes = z = z; "
	for _, text := range []string{rich, "policy p; replicas 1..9; metric m; metric k [s]; " + lets + `guard yes then to z * 1[rep]; guard yes and yes or cron("* * * * *") then hold; decide ladder z + z { 1: to z * 1[rep], 2: hold, else: to z * 1[rep] };`} {
		p := read(t, text)
		first, _, _ := Policy(p)
		second, _, _ := Policy(p)
		third := loaded(t, text)
		fourth := loaded(t, text)
		m := memory{}
		for _, plan := range []api.Plan{first, second, third, fourth} {
			m.plan(plan)
		}
		for _, item := range p.Items {
			m.name(item.Name)
		}
		for at, times := range m {
			if times > 1 {
				t.Errorf("%s: what stands at %v stands in %d places", brief(text), at, times)
			}
		}
		if !samePlan(first, second) || !samePlan(first, third) || !samePlan(first, fourth) {
			t.Error("other plans")
		}
		spoiled := core.Copy(first)
		spoilCores(first.Final.Parts)
		for _, g := range first.Guards[1:] {
			spoilCores(g.Then.Parts)
			spoilCores(g.When.Parts)
		}
		if !core.Same(first.Guards[0].When, spoiled.Guards[0].When) || !core.Same(first.Guards[0].Then, spoiled.Guards[0].Then) || core.Same(first.Final, spoiled.Final) {
			t.Error("the cores hang on one another")
		}
		if again, _, _ := Policy(p); !samePlan(again, second) {
			t.Error("the policy has changed")
		}
	}
}

// spoilCores writes over all that the lists hold, and their spare room.
func spoilCores(list []api.Core) {
	for i := range list {
		spoilCores(list[i].Parts)
	}
	list = list[:cap(list)]
	for i := range list {
		list[i] = api.Core{Op: 1234, N: 5, M: 6}
	}
}

// roomy answers t with room behind all of its lists, in which something stands.
func roomy(x api.Term) api.Term {
	parts := make([]api.Term, len(x.Parts), len(x.Parts)+2)
	for i, part := range x.Parts {
		parts[i] = roomy(part)
	}
	full := parts[:cap(parts)]
	for i := len(parts); i < len(full); i++ {
		full[i] = api.Term{Kind: -99, At: -98, Text: "room"}
	}
	x.Parts = parts
	return x
}

// filled answers t with its spare room as parts, in memory of its own.
func filled(x api.Term) api.Term {
	x.Parts = slices.Clone(x.Parts[:cap(x.Parts)])
	for i, part := range x.Parts {
		x.Parts[i] = filled(part)
	}
	return x
}

func filledItems(list []api.Item) []api.Item {
	list = slices.Clone(list[:cap(list)])
	for i, item := range list {
		list[i].Term, list[i].Then = filled(item.Term), filled(item.Then)
	}
	return list
}

func TestWhatIsHandedInStaysAsItWas(t *testing.T) {
	for _, text := range []string{rich, strings.Replace(rich, "50[pct]", "-2[pct]", 1), strings.Replace(rich, "95", "101", 1), strings.Replace(rich, "lat,", "late,", 1), "policy p; replicas 1..9; decide hold;"} {
		p := read(t, text)
		p.Items = slices.Grow(p.Items, 3)
		for i, item := range p.Items {
			if item.Term.Kind != 0 {
				p.Items[i].Term = roomy(item.Term)
			}
			if item.Then.Kind != 0 {
				p.Items[i].Then = roomy(item.Then)
			}
		}
		before := filledItems(p.Items)
		plan, at, errno := Policy(p)
		again, where, why := Policy(p)
		if at != where || errno != why || !samePlan(plan, again) {
			t.Errorf("%s: %d at %d, then %d at %d", brief(text), errno, at, why, where)
		}
		spoilCores(plan.Final.Parts)
		spoilCores(again.Final.Parts)
		if !reflect.DeepEqual(filledItems(p.Items), before) {
			t.Errorf("%s has changed", brief(text))
		}
		if !tree.Policy(p) {
			t.Errorf("%s isn't formed", brief(text))
		}
	}
}

func TestKeepsNothing(t *testing.T) {
	for range 3 {
		loaded(t, "policy p; replicas 1..9; metric a; let b = 1; decide to b * 1[rep];")
		faulty(t, "policy p; replicas 1..9; decide to @b * 1[rep];", api.ErrName)
		faulty(t, "policy p; replicas 1..9; decide to @sum(a, 1s) * 1[rep];", api.ErrName)
		faulty(t, "policy p; cooldown up 1s; @decide hold;", api.ErrMissing)
		loaded(t, "policy p; replicas 2..3; cooldown up 2s; let a = 1; metric b; decide hold;")
	}
}

func TestCallsOnlyTheLayersBelow(t *testing.T) {
	files, err := filepath.Glob("*.go")
	if err != nil || len(files) == 0 {
		t.Fatal(files, err)
	}
	below := []string{"api", "fix", "dim", "cron", "window", "tree", "parse", "core"}
	for _, file := range files {
		if strings.HasSuffix(file, "_test.go") {
			continue
		}
		parsed, err := parser.ParseFile(token.NewFileSet(), file, nil, parser.ImportsOnly)
		if err != nil {
			t.Fatal(err)
		}
		for _, spec := range parsed.Imports {
			path, _ := strconv.Unquote(spec.Path.Value)
			if name, ours := strings.CutPrefix(path, "capstan/"); ours && !slices.Contains(below, name) {
				t.Errorf("%s imports %s", file, path)
			}
		}
	}
}
