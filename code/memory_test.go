package code

import (
	"go/parser"
	"go/token"
	"path/filepath"
	"reflect"
	"slices"
	"strconv"
	"strings"
	"testing"
	"unsafe"

	"capstan/api"
	"capstan/core"
)

// memory is where lists stand: of each first byte how many lists begin there.
type memory map[unsafe.Pointer]int

func keep[T any](m memory, list []T) {
	if cap(list) > 0 {
		m[unsafe.Pointer(unsafe.SliceData(list))]++
	}
}

func planMemory(p api.Plan) memory {
	m := memory{}
	keep(m, p.Wins)
	keep(m, p.Crons)
	return m
}

func programMemory(p api.Program) memory {
	m := memory{}
	keep(m, p.Consts)
	keep(m, p.Wins)
	keep(m, p.Crons)
	keep(m, p.Code)
	return m
}

func copyProgram(p api.Program) api.Program {
	p.Consts, p.Wins, p.Crons, p.Code = slices.Clone(p.Consts), slices.Clone(p.Wins), slices.Clone(p.Crons), slices.Clone(p.Code)
	return p
}

// roomy answers the list with room behind it in which something stands.
func roomy[T any](list []T, stands T) []T {
	made := append(slices.Clone(list), stands, stands, stands)
	return slices.Clip(made)[:len(list)]
}

// roomyCore answers c with room behind all of its lists.
func roomyCore(c api.Core) api.Core {
	c.Parts = roomy(c.Parts, num(-99))
	for i, part := range c.Parts {
		c.Parts[i] = roomyCore(part)
	}
	return c
}

func roomyPlan(p api.Plan) api.Plan {
	p.Metrics = roomy(p.Metrics, "room")
	p.Wins = roomy(p.Wins, api.Win{Metric: -99})
	p.Crons = roomy(p.Crons, api.Cron{Day: 99})
	p.Guards = roomy(p.Guards, api.Guard{When: num(-99)})
	for i, g := range p.Guards {
		p.Guards[i] = api.Guard{When: roomyCore(g.When), Then: roomyCore(g.Then)}
	}
	p.Final = roomyCore(p.Final)
	return p
}

// filledCore answers c with its spare room as elements, in memory of its own.
func filledCore(c api.Core) api.Core {
	c.Parts = slices.Clone(c.Parts[:cap(c.Parts)])
	for i, part := range c.Parts {
		c.Parts[i] = filledCore(part)
	}
	return c
}

func filledPlan(p api.Plan) api.Plan {
	p.Metrics, p.Wins = slices.Clone(p.Metrics[:cap(p.Metrics)]), slices.Clone(p.Wins[:cap(p.Wins)])
	p.Crons, p.Guards = slices.Clone(p.Crons[:cap(p.Crons)]), slices.Clone(p.Guards[:cap(p.Guards)])
	for i, g := range p.Guards {
		p.Guards[i] = api.Guard{When: filledCore(g.When), Then: filledCore(g.Then)}
	}
	p.Final = filledCore(p.Final)
	return p
}

func spoilProgram(p api.Program) {
	clear(p.Consts[:cap(p.Consts)])
	clear(p.Wins[:cap(p.Wins)])
	clear(p.Crons[:cap(p.Crons)])
	clear(p.Code[:cap(p.Code)])
}

// shapes answers plans of all kinds, some with one list in many places.
func shapes() []api.Plan {
	pair := []api.Core{rep, num(1)}
	sum, below := api.Core{Op: api.OAdd, Parts: pair}, api.Core{Op: api.OLess, Parts: pair}
	small := ladder(sum, num(2), to(sum), num(3), to(sum), hold)
	list := []api.Plan{
		full(), longest(), simple(hold), simple(to(rep)), simple(to(sum)), simple(small),
		simple(small, guard(below, small), guard(below, small), guard(no, small)),
		{Rules: api.Rules{Max: 1, Step: 1}, Final: hold},
	}
	m := newMaker(5)
	for range 300 {
		list = append(list, m.plan())
	}
	return list
}

func TestP21_1NothingIsShared(t *testing.T) {
	for _, p := range shapes() {
		p = roomyPlan(p)
		a, _ := Emit(p)
		b, _ := Emit(p)
		before, made, again := planMemory(p), programMemory(a), programMemory(b)
		for at, times := range made {
			if times > 1 || before[at] > 0 || again[at] > 0 {
				t.Errorf("Emit(%s) shares a list", brief(p))
			}
		}
	}
}

func TestP21_1WhatIsAnsweredIsOnItsOwn(t *testing.T) {
	for _, shown := range shapes() {
		p := core.Copy(shown) // its lists will be written over, and others share them
		a, _ := Emit(p)
		b, _ := Emit(p)
		want := copyProgram(a)
		spoilProgram(b)
		if !reflect.DeepEqual(p, shown) || !sameProgram(a, want) {
			t.Fatalf("%s is now %s, or %s %s", brief(shown), brief(p), brief(want), brief(a))
		}
		clear(p.Wins)
		clear(p.Crons)
		clear(p.Guards)
		clear(p.Final.Parts)
		if !sameProgram(a, want) {
			t.Fatalf("%s is now %s", brief(want), brief(a))
		}
	}
}

func TestWhatIsHandedInStaysAsItWas(t *testing.T) {
	for _, p := range append(shapes(), api.Plan{}, simple(rep), simple(to(memo(9, rep)))) {
		p := roomyPlan(p)
		before := filledPlan(p)
		Emit(p)
		if !reflect.DeepEqual(filledPlan(p), before) {
			t.Errorf("%s is now %s", brief(before), brief(p))
		}
	}
}

func TestKeepsNothing(t *testing.T) {
	for range 3 {
		emits(t, simple(to(plus(rep, num(5)))), 2, "IRep; INum 0; IAdd; ITo", 5)
		noProgram(t, api.Plan{}, api.ErrForm)
		emits(t, simple(to(num(7))), 1, "INum 0; ITo", 7)
		emits(t, simple(hold), 0, "IHold")
	}
}

func TestCallsOnlyTheLayersBelow(t *testing.T) {
	files, err := filepath.Glob("*.go")
	if err != nil || len(files) == 0 {
		t.Fatal(files, err)
	}
	for _, file := range files {
		if strings.HasSuffix(file, "_test.go") {
			continue
		}
		parsed, err := parser.ParseFile(token.NewFileSet(), file, nil, parser.ImportsOnly)
		if err != nil {
			t.Fatal(err)
		}
		for _, spec := range parsed.Imports {
			path, _ := strconv.Unquote(spec.Path.Value)
			if strings.HasPrefix(path, "capstan/") && !slices.Contains([]string{"capstan/api", "capstan/core"}, path) {
				t.Errorf("%s imports %s", file, path)
			}
		}
	}
}
