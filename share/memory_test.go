package share

import (
	"go/parser"
	"go/token"
	"path/filepath"
	"reflect"
	"slices"
	"strconv"
	"strings"
	"testing"
	"unsafe"

	"capstan/api"
	"capstan/core"
)

// memory is where lists stand: of each first byte how many lists begin there.
type memory map[unsafe.Pointer]int

func keep[T any](m memory, list []T) {
	if cap(list) > 0 {
		m[unsafe.Pointer(unsafe.SliceData(list))]++
	}
}

func (m memory) core(c api.Core) {
	keep(m, c.Parts)
	for _, part := range c.Parts {
		m.core(part)
	}
}

// memoryOf answers where the lists and names of p stand.
func memoryOf(p api.Plan) memory {
	m := memory{}
	keep(m, p.Metrics)
	for _, name := range p.Metrics {
		keep(m, unsafe.Slice(unsafe.StringData(name), len(name)))
	}
	keep(m, p.Wins)
	keep(m, p.Crons)
	keep(m, p.Guards)
	for _, g := range p.Guards {
		m.core(g.When)
		m.core(g.Then)
	}
	m.core(p.Final)
	return m
}

// roomy answers the list with room behind it in which something stands.
func roomy[T any](list []T, stands T) []T {
	made := append(slices.Clone(list), stands, stands, stands)
	return slices.Clip(made)[:len(list)]
}

// roomyCore answers c with room behind all of its lists.
func roomyCore(c api.Core) api.Core {
	c.Parts = roomy(c.Parts, num(-99))
	for i, part := range c.Parts {
		c.Parts[i] = roomyCore(part)
	}
	return c
}

func roomyPlan(p api.Plan) api.Plan {
	p.Metrics = roomy(p.Metrics, "room")
	p.Wins = roomy(p.Wins, api.Win{Metric: -99})
	p.Crons = roomy(p.Crons, api.Cron{Day: 99})
	p.Guards = roomy(p.Guards, api.Guard{When: num(-99)})
	for i, g := range p.Guards {
		p.Guards[i] = api.Guard{When: roomyCore(g.When), Then: roomyCore(g.Then)}
	}
	p.Final = roomyCore(p.Final)
	return p
}

// filledCore answers c with its spare room as elements, in memory of its own.
func filledCore(c api.Core) api.Core {
	c.Parts = slices.Clone(c.Parts[:cap(c.Parts)])
	for i, part := range c.Parts {
		c.Parts[i] = filledCore(part)
	}
	return c
}

func filledPlan(p api.Plan) api.Plan {
	p.Metrics, p.Wins = slices.Clone(p.Metrics[:cap(p.Metrics)]), slices.Clone(p.Wins[:cap(p.Wins)])
	p.Crons, p.Guards = slices.Clone(p.Crons[:cap(p.Crons)]), slices.Clone(p.Guards[:cap(p.Guards)])
	for i, g := range p.Guards {
		p.Guards[i] = api.Guard{When: filledCore(g.When), Then: filledCore(g.Then)}
	}
	p.Final = filledCore(p.Final)
	return p
}

// spoilCore writes over all that the lists of c hold, and their spare room.
func spoilCore(c api.Core) {
	for _, part := range c.Parts {
		spoilCore(part)
	}
	list := c.Parts[:cap(c.Parts)]
	for i := range list {
		list[i] = api.Core{Op: 1234, N: 5, M: 6}
	}
}

func spoilPlan(p api.Plan) {
	for _, g := range p.Guards {
		spoilCore(g.When)
		spoilCore(g.Then)
	}
	spoilCore(p.Final)
	clear(p.Metrics[:cap(p.Metrics)])
	clear(p.Wins[:cap(p.Wins)])
	clear(p.Crons[:cap(p.Crons)])
	clear(p.Guards[:cap(p.Guards)])
}

// shapes answers plans of all kinds, some with one list in many places.
func shapes() []api.Plan {
	pair := []api.Core{rep, num(1)}
	sum, below := api.Core{Op: api.OAdd, Parts: pair}, api.Core{Op: api.OLess, Parts: pair}
	small := ladder(sum, num(2), to(sum), num(3), to(sum), hold)
	big := ladder(sum, num(1), small, num(2), small, num(3), hold, small)
	list := []api.Plan{
		full(), simple(hold), simple(to(sum)), simple(small), simple(big),
		simple(small, guard(below, small), guard(below, big), guard(no, small), guard(below, small)),
		simple(to(plus(sum, sum)), guard(of(api.OLess, win(3), win(3)), small), guard(sched(4), to(plus(sum, sum)))),
	}
	m := newMaker(7)
	for range 300 {
		list = append(list, m.plan())
	}
	return list
}

func TestP20_1NothingIsShared(t *testing.T) {
	for _, p := range shapes() {
		p = roomyPlan(p)
		a, _ := Plan(p)
		b, _ := Plan(p)
		before, made, again := memoryOf(p), memoryOf(a), memoryOf(b)
		for at, times := range made {
			if times > 1 || before[at] > 0 || again[at] > 0 {
				t.Errorf("Plan(%s) shares a list", brief(p))
			}
		}
	}
}

func TestP20_1WhatIsAnsweredIsOnItsOwn(t *testing.T) {
	for _, shown := range shapes() {
		p := core.Copy(shown) // it will be written over, and others share lists with it
		a, _ := Plan(p)
		b, _ := Plan(p)
		want := core.Copy(a)
		spoilPlan(b)
		if !samePlan(p, shown) {
			t.Fatalf("%s is now %s", brief(shown), brief(p))
		}
		spoilPlan(p)
		if !samePlan(a, want) {
			t.Fatalf("%s is now %s", brief(want), brief(a))
		}
	}
}

func TestWhatIsHandedInStaysAsItWas(t *testing.T) {
	refused := []api.Plan{{}, simple(rep), with(3, full()), with(3, simple(to(memo(0, rep)))), simple(to(chain(1025, neg(win(1)))))}
	for _, p := range append(shapes(), refused...) {
		p := roomyPlan(p)
		before := filledPlan(p)
		Plan(p)
		if !reflect.DeepEqual(filledPlan(p), before) {
			t.Errorf("%s is now %s", brief(before), brief(p))
		}
	}
}

func TestKeepsNothing(t *testing.T) {
	for range 3 {
		becomes(t, full(), fullShared())
		noPlan(t, api.Plan{}, api.ErrForm)
		noPlan(t, with(1, full()), api.ErrRange)
		noPlan(t, simple(to(chain(1025, neg(rep)))), api.ErrLarge)
		stays(t, simple(to(neg(rep)))) // it was met in the others
	}
}

func TestCallsOnlyTheLayersBelow(t *testing.T) {
	files, err := filepath.Glob("*.go")
	if err != nil || len(files) == 0 {
		t.Fatal(files, err)
	}
	for _, file := range files {
		if strings.HasSuffix(file, "_test.go") {
			continue
		}
		parsed, err := parser.ParseFile(token.NewFileSet(), file, nil, parser.ImportsOnly)
		if err != nil {
			t.Fatal(err)
		}
		for _, spec := range parsed.Imports {
			path, _ := strconv.Unquote(spec.Path.Value)
			if strings.HasPrefix(path, "capstan/") && !slices.Contains([]string{"capstan/api", "capstan/core"}, path) {
				t.Errorf("%s imports %s", file, path)
			}
		}
	}
}
