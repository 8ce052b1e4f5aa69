package core

import (
	"go/parser"
	"go/token"
	"path/filepath"
	"reflect"
	"slices"
	"strconv"
	"strings"
	"testing"
	"unsafe"

	"capstan/api"
)

// plans answers plans of all kinds, formed and not.
func plans() []api.Plan {
	list := []api.Plan{{}, plan(), simple(hold), simple(rungs(1, 2, 3)),
		{Metrics: []string{}, Wins: []api.Win{}, Crons: []api.Cron{}, Guards: []api.Guard{}, Final: api.Core{Parts: []api.Core{}}},
		{Metrics: []string{"", "a", "a", "\xff"}, Rules: api.Rules{Min: -1, Max: most, Step: least, Up: 5, Down: -5}, Wins: make([]api.Win, 3), Crons: []api.Cron{{Minute: 1<<64 - 1}}, Locals: -9, Guards: make([]api.Guard, 4)},
		{Guards: []api.Guard{{When: of(99, of(-1, num(least)), num(5)), Then: api.Core{Op: least, N: most, M: least}}}, Final: of(0, of(0, of(0)))},
	}
	for op := api.ONum; op <= api.OLadder; op++ {
		list = append(list, api.Plan{Guards: []api.Guard{{When: whole(op), Then: of(op, whole(op))}, {Then: whole(op)}}, Final: whole(op)})
	}
	return list
}

func TestP15_4Copy(t *testing.T) {
	for _, p := range plans() {
		if got := Copy(p); !reflect.DeepEqual(got, p) {
			t.Errorf("Copy(%v) = %v", p, got)
		}
	}
	for _, final := range []api.Core{deep(api.ONeg, 1<<16-1, rep), of(7, make([]api.Core, 1<<20)...), doubled(14, rep)} {
		p := api.Plan{Final: final, Guards: []api.Guard{{When: final}}}
		if got := Copy(p); !Same(got.Final, final) || len(got.Guards) != 1 || !Same(got.Guards[0].When, final) || !Same(got.Guards[0].Then, api.Core{}) {
			t.Errorf("Copy of a large plan: %s", brief(got))
		}
	}
}

// memory is where lists stand: of each first byte how many lists begin there.
type memory map[unsafe.Pointer]int

func keep[T any](m memory, list []T) {
	if cap(list) > 0 {
		m[unsafe.Pointer(unsafe.SliceData(list))]++
	}
}

func (m memory) core(c api.Core) {
	keep(m, c.Parts)
	for _, part := range c.Parts {
		m.core(part)
	}
}

// memoryOf answers where the lists and names of p stand.
func memoryOf(p api.Plan) memory {
	m := memory{}
	keep(m, p.Metrics)
	for _, name := range p.Metrics {
		keep(m, unsafe.Slice(unsafe.StringData(name), len(name)))
	}
	keep(m, p.Wins)
	keep(m, p.Crons)
	keep(m, p.Guards)
	for _, g := range p.Guards {
		m.core(g.When)
		m.core(g.Then)
	}
	m.core(p.Final)
	return m
}

func TestP15_4NothingIsShared(t *testing.T) {
	pair := []api.Core{num(1), rep} // one list in many places
	sum := api.Core{Op: api.OAdd, Parts: pair}
	twice := api.Plan{Guards: []api.Guard{{When: sum, Then: sum}, {When: sum}}, Final: of(api.OMax, sum, sum)}
	for _, p := range append(plans(), twice) {
		before, made, again := memoryOf(p), memoryOf(Copy(p)), memoryOf(Copy(p))
		for at, times := range made {
			if times > 1 || before[at] > 0 || again[at] > 0 {
				t.Errorf("Copy(%v) shares a list", p)
			}
		}
	}
	got := Copy(twice)
	got.Guards[0].When.Parts[0].N = 7
	if pair[0].N != 1 || got.Guards[0].Then.Parts[0].N != 1 || got.Final.Parts[1].Parts[0].N != 1 {
		t.Error(got)
	}
}

func TestP15_4CopyIsOnItsOwn(t *testing.T) {
	p := plan()
	got := Copy(p)
	spoilPlan(p)
	if !reflect.DeepEqual(got, plan()) || reflect.DeepEqual(p, plan()) {
		t.Error(got)
	}
	q := plan()
	spoilPlan(Copy(q))
	if !reflect.DeepEqual(q, plan()) {
		t.Error(q)
	}
}

// spoilPlan writes over all that the lists of p hold, and their spare room.
func spoilPlan(p api.Plan) {
	for _, g := range p.Guards {
		spoilCores(g.When.Parts)
		spoilCores(g.Then.Parts)
	}
	spoilCores(p.Final.Parts)
	clear(p.Metrics[:cap(p.Metrics)])
	clear(p.Wins[:cap(p.Wins)])
	clear(p.Crons[:cap(p.Crons)])
	clear(p.Guards[:cap(p.Guards)])
}

func spoilCores(list []api.Core) {
	for i := range list {
		spoilCores(list[i].Parts)
	}
	list = list[:cap(list)]
	for i := range list {
		list[i] = api.Core{Op: 1234, N: 5, M: 6}
	}
}

// roomy answers the list with room behind it in which something stands.
func roomy[T any](list []T, stands T) []T {
	made := append(slices.Clone(list), stands, stands, stands)
	return slices.Clip(made)[:len(list)]
}

// roomyCore answers c with room behind all of its lists.
func roomyCore(c api.Core) api.Core {
	parts := roomy(c.Parts, api.Core{Op: -99, N: -98, M: -97})
	for i := range parts {
		parts[i] = roomyCore(parts[i])
	}
	c.Parts = parts
	return c
}

func roomyPlan(p api.Plan) api.Plan {
	p.Metrics = roomy(p.Metrics, "room")
	p.Wins = roomy(p.Wins, api.Win{Metric: -99})
	p.Crons = roomy(p.Crons, api.Cron{Day: 99})
	p.Guards = roomy(p.Guards, api.Guard{When: num(-99)})
	for i, g := range p.Guards {
		p.Guards[i] = api.Guard{When: roomyCore(g.When), Then: roomyCore(g.Then)}
	}
	p.Final = roomyCore(p.Final)
	return p
}

// filled answers the list with its spare room, as elements.
func filled[T any](list []T) []T {
	return list[:cap(list)]
}

func filledCore(c api.Core) api.Core {
	c.Parts = slices.Clone(filled(c.Parts))
	for i, part := range c.Parts {
		c.Parts[i] = filledCore(part)
	}
	return c
}

// filledPlan answers p with all its spare room, in memory of its own.
func filledPlan(p api.Plan) api.Plan {
	p.Metrics, p.Wins = slices.Clone(filled(p.Metrics)), slices.Clone(filled(p.Wins))
	p.Crons, p.Guards = slices.Clone(filled(p.Crons)), slices.Clone(filled(p.Guards))
	for i, g := range p.Guards {
		p.Guards[i] = api.Guard{When: filledCore(g.When), Then: filledCore(g.Then)}
	}
	p.Final = filledCore(p.Final)
	return p
}

func TestWhatIsHandedInStaysAsItWas(t *testing.T) {
	for _, p := range plans() {
		p := roomyPlan(p)
		v := api.Env{Rep: 3, Wins: roomy(make([]api.Result, len(p.Wins)), api.Result{N: 9}), Crons: roomy(make([]bool, len(p.Crons)), true)}
		before, wins, crons := filledPlan(p), slices.Clone(filled(v.Wins)), slices.Clone(filled(v.Crons))
		other := Copy(p)
		for _, c := range []api.Core{p.Final, {Op: api.OTo, Parts: p.Final.Parts}} {
			Sort(c, 3, 2, 2)
			Nodes(c)
			Same(c, other.Final)
			Same(other.Final, c)
			Eval(c, v)
			Decide(simple(c), v)
		}
		for _, g := range p.Guards {
			Sort(g.When, 3, 2, 2)
			Eval(g.When, v)
			Eval(g.Then, v)
		}
		Right(p.Rules)
		Formed(p)
		Decide(p, v)
		spoilPlan(other)
		spoilPlan(Copy(p))
		if !reflect.DeepEqual(filledPlan(p), before) || !slices.Equal(filled(v.Wins), wins) || !slices.Equal(filled(v.Crons), crons) {
			t.Errorf("%v is now %v, %v", before, p, v)
		}
	}
}

func TestKeepsNothing(t *testing.T) {
	p, v := plan(), api.Env{Rep: 3, Wins: make([]api.Result, 3), Crons: make([]bool, 2)}
	for range 3 {
		decideIs(t, p, v, api.Raw{Want: 2})
		noDecide(t, simple(rungs(5, 5)), api.Env{})
		lacks(t, zero, api.DivZero)
		comesTo(t, of(api.OAdd, rep, num(500000)), 3500000)
		formedIs(t, simple(of(api.OTo, memo(0, rep))), false)
		if Nodes(doubled(12, rep)) != 4097 || Nodes(rep) != 1 || Sort(win(0), 1, 0, 0) != 1 || Sort(win(0), 0, 0, 0) != 0 {
			t.Error("another one")
		}
	}
}

func TestCallsOnlyTheLayersBelow(t *testing.T) {
	files, err := filepath.Glob("*.go")
	if err != nil || len(files) == 0 {
		t.Fatal(files, err)
	}
	for _, file := range files {
		if strings.HasSuffix(file, "_test.go") {
			continue
		}
		parsed, err := parser.ParseFile(token.NewFileSet(), file, nil, parser.ImportsOnly)
		if err != nil {
			t.Fatal(err)
		}
		for _, spec := range parsed.Imports {
			path, _ := strconv.Unquote(spec.Path.Value)
			if strings.HasPrefix(path, "capstan/") && !slices.Contains([]string{"capstan/api", "capstan/fix", "capstan/cron", "capstan/window"}, path) {
				t.Errorf("%s imports %s", file, path)
			}
		}
	}
}
