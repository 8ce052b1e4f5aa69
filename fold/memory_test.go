package fold

import (
	"go/parser"
	"go/token"
	"path/filepath"
	"reflect"
	"slices"
	"strconv"
	"strings"
	"testing"
	"unsafe"

	"capstan/api"
	"capstan/core"
)

// memory is where lists stand: of each first byte how many lists begin there.
type memory map[unsafe.Pointer]int

func keep[T any](m memory, list []T) {
	if cap(list) > 0 {
		m[unsafe.Pointer(unsafe.SliceData(list))]++
	}
}

func (m memory) core(c api.Core) {
	keep(m, c.Parts)
	for _, part := range c.Parts {
		m.core(part)
	}
}

// memoryOf answers where the lists and names of p stand.
func memoryOf(p api.Plan) memory {
	m := memory{}
	keep(m, p.Metrics)
	for _, name := range p.Metrics {
		keep(m, unsafe.Slice(unsafe.StringData(name), len(name)))
	}
	keep(m, p.Wins)
	keep(m, p.Crons)
	keep(m, p.Guards)
	for _, g := range p.Guards {
		m.core(g.When)
		m.core(g.Then)
	}
	m.core(p.Final)
	return m
}

// roomy answers the list with room behind it in which something stands.
func roomy[T any](list []T, stands T) []T {
	made := append(slices.Clone(list), stands, stands, stands)
	return slices.Clip(made)[:len(list)]
}

// roomyCore answers c with room behind all of its lists.
func roomyCore(c api.Core) api.Core {
	c.Parts = roomy(c.Parts, num(-99))
	for i, part := range c.Parts {
		c.Parts[i] = roomyCore(part)
	}
	return c
}

func roomyPlan(p api.Plan) api.Plan {
	p.Metrics = roomy(p.Metrics, "room")
	p.Wins = roomy(p.Wins, api.Win{Metric: -99})
	p.Crons = roomy(p.Crons, api.Cron{Day: 99})
	p.Guards = roomy(p.Guards, api.Guard{When: num(-99)})
	for i, g := range p.Guards {
		p.Guards[i] = api.Guard{When: roomyCore(g.When), Then: roomyCore(g.Then)}
	}
	p.Final = roomyCore(p.Final)
	return p
}

// filledCore answers c with its spare room as elements, in memory of its own.
func filledCore(c api.Core) api.Core {
	c.Parts = slices.Clone(c.Parts[:cap(c.Parts)])
	for i, part := range c.Parts {
		c.Parts[i] = filledCore(part)
	}
	return c
}

func filledPlan(p api.Plan) api.Plan {
	p.Metrics, p.Wins = slices.Clone(p.Metrics[:cap(p.Metrics)]), slices.Clone(p.Wins[:cap(p.Wins)])
	p.Crons, p.Guards = slices.Clone(p.Crons[:cap(p.Crons)]), slices.Clone(p.Guards[:cap(p.Guards)])
	for i, g := range p.Guards {
		p.Guards[i] = api.Guard{When: filledCore(g.When), Then: filledCore(g.Then)}
	}
	p.Final = filledCore(p.Final)
	return p
}

// spoilCore writes over all that the lists of c hold, and their spare room.
func spoilCore(c api.Core) {
	for _, part := range c.Parts {
		spoilCore(part)
	}
	list := c.Parts[:cap(c.Parts)]
	for i := range list {
		list[i] = api.Core{Op: 1234, N: 5, M: 6}
	}
}

func spoilPlan(p api.Plan) {
	for _, g := range p.Guards {
		spoilCore(g.When)
		spoilCore(g.Then)
	}
	spoilCore(p.Final)
	clear(p.Metrics[:cap(p.Metrics)])
	clear(p.Wins[:cap(p.Wins)])
	clear(p.Crons[:cap(p.Crons)])
	clear(p.Guards[:cap(p.Guards)])
}

// shapes answers plans of all kinds, some with one list in many places.
func shapes() []api.Plan {
	pair := []api.Core{rep, num(1)}
	sum := api.Core{Op: api.OAdd, Parts: pair}
	ladder := of(api.OLadder, num(1), num(2), of(api.OTo, sum), hold)
	list := []api.Plan{full(), fullFolded(), simple(hold), simple(of(api.OTo, of(api.OMax, sum, sum))), simple(of(api.OLadder, sum, num(1), ladder, num(2), ladder, ladder)), simple(of(api.OTo, of(api.OIf, yes, sum, sum))), simple(of(api.OTo, of(api.OEither, zero, sum)))}
	for op := api.OAnd; op <= api.OOr; op++ {
		p := simple(ladder)
		whole := of(op, truthIs(op == api.OAnd), api.Core{Op: api.OLess, Parts: pair})
		p.Guards = []api.Guard{{When: whole, Then: ladder}, {When: whole, Then: ladder}}
		list = append(list, p)
	}
	m := newMaker(5)
	for range 300 {
		list = append(list, m.plan())
	}
	return list
}

func TestP18_1NothingIsShared(t *testing.T) {
	for _, p := range shapes() {
		p = roomyPlan(p)
		a, _ := Plan(p)
		b, _ := Plan(p)
		c, _ := Core(p.Final)
		d, _ := Core(p.Final)
		before, made := memoryOf(p), memoryOf(a)
		again := memoryOf(b)
		again.core(c)
		again.core(d)
		for at, times := range made {
			if times > 1 || before[at] > 0 || again[at] > 0 {
				t.Errorf("Plan(%v) shares a list", p)
			}
		}
		for at, times := range again {
			if times > 1 || before[at] > 0 {
				t.Errorf("Core(%v) shares a list", p.Final)
			}
		}
	}
}

func TestP18_1WhatIsAnsweredIsOnItsOwn(t *testing.T) {
	for _, shown := range shapes() {
		p := core.Copy(shown) // it will be written over, and others share lists with it
		a, _ := Plan(p)
		b, _ := Plan(p)
		c, _ := Core(p.Final)
		want, folded := core.Copy(a), core.Copy(simple(c)).Final
		spoilPlan(b)
		if !samePlan(p, shown) {
			t.Fatalf("%v is now %v", shown, p)
		}
		spoilPlan(p)
		if !samePlan(a, want) || !core.Same(c, folded) {
			t.Fatalf("%v is now %v, %v", want, a, c)
		}
	}
}

func TestWhatIsHandedInStaysAsItWas(t *testing.T) {
	unformed := []api.Plan{{}, simple(rep), simple(of(api.OTo, of(api.OAdd, num(1), yes))), {Final: of(api.OTo, of(api.OAdd, num(1), num(2)))}}
	for _, p := range append(shapes(), unformed...) {
		p := roomyPlan(p)
		before := filledPlan(p)
		Plan(p)
		Core(p.Final)
		for _, g := range p.Guards {
			Core(g.When)
			Core(g.Then)
		}
		if !reflect.DeepEqual(filledPlan(p), before) {
			t.Errorf("%v is now %v", before, p)
		}
	}
}

func TestKeepsNothing(t *testing.T) {
	for range 3 {
		planBecomes(t, full(), fullFolded())
		noPlan(t, api.Plan{})
		becomes(t, of(api.OAdd, memo(3, num(1)), num(2)), num(3))
		noFold(t, of(api.OAdd, num(1), yes))
		stays(t, memo(3, rep))
		noFold(t, doubled(12, rep))
	}
}

func TestCallsOnlyTheLayersBelow(t *testing.T) {
	files, err := filepath.Glob("*.go")
	if err != nil || len(files) == 0 {
		t.Fatal(files, err)
	}
	for _, file := range files {
		if strings.HasSuffix(file, "_test.go") {
			continue
		}
		parsed, err := parser.ParseFile(token.NewFileSet(), file, nil, parser.ImportsOnly)
		if err != nil {
			t.Fatal(err)
		}
		for _, spec := range parsed.Imports {
			path, _ := strconv.Unquote(spec.Path.Value)
			if strings.HasPrefix(path, "capstan/") && !slices.Contains([]string{"capstan/api", "capstan/fix", "capstan/core"}, path) {
				t.Errorf("%s imports %s", file, path)
			}
		}
	}
}
