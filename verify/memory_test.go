package verify

import (
	"go/parser"
	"go/token"
	"path/filepath"
	"reflect"
	"slices"
	"strconv"
	"strings"
	"testing"

	"capstan/api"
)

// roomy answers the list with room behind it in which something stands.
func roomy[T any](list []T, stands T) []T {
	made := append(slices.Clone(list), stands, stands, stands)
	return slices.Clip(made)[:len(list)]
}

func roomyProgram(p api.Program) api.Program {
	p.Consts, p.Wins = roomy(p.Consts, -99), roomy(p.Wins, api.Win{Metric: -99})
	p.Crons, p.Code = roomy(p.Crons, api.Cron{Day: 99}), roomy(p.Code, api.Instr{Op: -99})
	return p
}

// filled answers p with its spare room as elements, in memory of its own.
func filled(p api.Program) api.Program {
	p.Consts, p.Wins = slices.Clone(p.Consts[:cap(p.Consts)]), slices.Clone(p.Wins[:cap(p.Wins)])
	p.Crons, p.Code = slices.Clone(p.Crons[:cap(p.Crons)]), slices.Clone(p.Code[:cap(p.Code)])
	return p
}

func shapes() []api.Program {
	list := []api.Program{
		{}, bare(1, "IRep, ITo"), bare(0, "IRep, ITo"), full(3, "IHave 0:2, INum 3, IScale 1, ITo"), nest(30),
		full(2, "ITry 3, IWin 1, IDone 4, ICron 1, IZero 6, IHold, IRep, IBy"),
	}
	m := newMaker(6)
	for range 300 {
		p := m.program(4)
		list = append(list, p)
		m.spoil(&p)
		list = append(list, p)
	}
	return list
}

// What stands in the room behind a list is none of it: as if the room weren't there.
func TestWhatIsHandedInStaysAsItWas(t *testing.T) {
	for _, shown := range shapes() {
		p := roomyProgram(shown)
		before := filled(p)
		at, errno := Check(p)
		heights, other := Heights(p)
		if !reflect.DeepEqual(filled(p), before) {
			t.Errorf("%s is now %s", brief(before), brief(p))
		}
		wantAt, want := Check(shown)
		wantHeights, _ := Heights(shown)
		if at != wantAt || errno != want || other != want || !slices.Equal(heights, wantHeights) {
			t.Errorf("%s: %d %d, with room %d %d", brief(shown), wantAt, want, at, errno)
		}
		answers(t, p)
	}
}

func TestP23_2WhatIsAnsweredIsOnItsOwn(t *testing.T) {
	for _, p := range shapes() {
		first, _ := Heights(p)
		want := slices.Clone(first)
		second, _ := Heights(p)
		for i := range second[:cap(second)] {
			second[:cap(second)][i] = -99
		}
		p.Code = slices.Clone(p.Code)
		clear(p.Code)
		if !slices.Equal(first, want) {
			t.Fatalf("%s is now %s", brief(want), brief(first))
		}
	}
}

func TestKeepsNothing(t *testing.T) {
	for range 3 {
		high(t, bare(1, "IRep, ITo"), 0, 1)
		refuses(t, bare(1, "IRep, IZero 3, IRep, ITo"), 2)
		high(t, bare(1, "IHold"), 0)
		refuses(t, api.Program{}, 0)
		high(t, bare(2, "IRep, IRep, IAdd, IBy"), 0, 1, 2, 1)
	}
}

func TestCallsOnlyTheLayersBelow(t *testing.T) {
	files, err := filepath.Glob("*.go")
	if err != nil || len(files) == 0 {
		t.Fatal(files, err)
	}
	below := []string{"capstan/api", "capstan/cron", "capstan/window", "capstan/core"}
	for _, file := range files {
		if strings.HasSuffix(file, "_test.go") {
			continue
		}
		parsed, err := parser.ParseFile(token.NewFileSet(), file, nil, parser.ImportsOnly)
		if err != nil {
			t.Fatal(err)
		}
		for _, spec := range parsed.Imports {
			path, _ := strconv.Unquote(spec.Path.Value)
			if strings.HasPrefix(path, "capstan/") && !slices.Contains(below, path) {
				t.Errorf("%s imports %s", file, path)
			}
		}
	}
}
