package vm

import (
	"go/parser"
	"go/token"
	"path/filepath"
	"reflect"
	"slices"
	"strconv"
	"strings"
	"testing"

	"capstan/api"
)

// roomy answers the list with room behind it in which something stands.
func roomy[T any](list []T, stands T) []T {
	made := append(slices.Clone(list), stands, stands, stands)
	return slices.Clip(made)[:len(list)]
}

func roomyProgram(p api.Program) api.Program {
	p.Consts, p.Wins = roomy(p.Consts, -99), roomy(p.Wins, api.Win{Metric: -99})
	p.Crons, p.Code = roomy(p.Crons, api.Cron{Day: 99}), roomy(p.Code, api.Instr{Op: -99})
	return p
}

func roomyEnv(v api.Env) api.Env {
	v.Wins, v.Crons = roomy(v.Wins, api.Result{N: -99}), roomy(v.Crons, true)
	return v
}

// filled answers p with its spare room as elements, in memory of its own.
func filled(p api.Program) api.Program {
	p.Consts, p.Wins = slices.Clone(p.Consts[:cap(p.Consts)]), slices.Clone(p.Wins[:cap(p.Wins)])
	p.Crons, p.Code = slices.Clone(p.Crons[:cap(p.Crons)]), slices.Clone(p.Code[:cap(p.Code)])
	return p
}

func filledEnv(v api.Env) api.Env {
	v.Wins, v.Crons = slices.Clone(v.Wins[:cap(v.Wins)]), slices.Clone(v.Crons[:cap(v.Crons)])
	return v
}

// spoilLists writes over all that the lists of p hold, and their spare room.
func spoilLists(p api.Program) {
	for i := range p.Consts[:cap(p.Consts)] {
		p.Consts[:cap(p.Consts)][i] = 77
	}
	clear(p.Wins[:cap(p.Wins)])
	clear(p.Crons[:cap(p.Crons)])
	for i := range p.Code[:cap(p.Code)] {
		p.Code[:cap(p.Code)][i] = api.Instr{Op: api.IHold}
	}
}

func shapes() []api.Program {
	list := []api.Program{
		{}, bare("IHold"), bare("IRep, ITo"), full("IHave 0:2, INum 3, IScale 1, ITo"), deep(30, "IWin 0"), bare("IRep"),
		full("ITry 3, IWin 1, IDone 4, ICron 1, IZero 6, IHold, IRep, IBy"), full("INum 4, INum 3, ITry 7, IAdd, INeg, INum 2, IDone 7, IMul, ITo"),
	}
	m := newMaker(8)
	for range 200 {
		p := m.program(4)
		list = append(list, p)
		m.spoil(&p)
		list = append(list, p)
	}
	return list
}

// What stands in the room behind a list is none of it: as if the room weren't there.
func TestWhatIsHandedInStaysAsItWas(t *testing.T) {
	maker := newMaker(9)
	for _, shown := range shapes() {
		p, v := roomyProgram(shown), maker.env(len(shown.Wins), len(shown.Crons))
		before, seen := filled(p), roomyEnv(v)
		beforeEnv := filledEnv(seen)
		raw, count, errno := Run(p, seen)
		m, _ := New(p)
		for time := range int64(5) {
			m.Sample(int(time%2), api.Sample{Time: time, Value: 5000000})
			m.Tick(time, 4)
		}
		if !reflect.DeepEqual(filled(p), before) || !reflect.DeepEqual(filledEnv(seen), beforeEnv) {
			t.Errorf("%s is now %s; %s is now %s", brief(before), brief(p), brief(beforeEnv), brief(seen))
		}
		if want, steps, why := Run(shown, v); raw != want || count != steps || errno != why {
			t.Errorf("%s: %v %d %d, with room %v %d %d", brief(shown), want, steps, why, raw, count, errno)
		}
	}
}

func TestP24_2AMachineOfItsOwn(t *testing.T) {
	for _, shown := range shapes() {
		p := roomyProgram(filled(shown))
		m, errno := New(p)
		if errno != api.OK {
			continue
		}
		other := machine(t, shown)
		spoilLists(p)
		for time := range int64(9) {
			m.Sample(int(time%2), api.Sample{Time: time, Value: time * 5000000})
			other.Sample(int(time%2), api.Sample{Time: time, Value: time * 5000000})
			raw, count, _ := m.Tick(time, time)
			if want, steps, _ := other.Tick(time, time); raw != want || count != steps {
				t.Fatalf("%s says %v, %d; behind a change of its lists %v, %d", brief(shown), want, steps, raw, count)
			}
			spoilLists(p)
		}
	}
}

// Two machines of one program take their samples each on its own.
func TestTwoMachines(t *testing.T) {
	p := watching(2, last)
	first, second := machine(t, p), machine(t, p)
	takes(t, first, 0, 9, 1000000)
	clocks(t, second, 0, false)
	ticks(t, second, 1, 0, holds(api.NoData), 2)
	takes(t, second, 0, 2, 4000000)
	ticks(t, first, 9, 0, wants(1), 4)
	ticks(t, second, 3, 0, wants(4), 4)
	late(t, first, 8)
	takes(t, second, 1, 8, 0)
	ticks(t, second, 11, 0, wants(4), 4)
	ticks(t, first, 18, 0, wants(1), 4)
	ticks(t, second, 12, 0, holds(api.NoData), 2)
}

func TestKeepsNothing(t *testing.T) {
	for range 3 {
		runs(t, bare("IRep, ITo"), api.Env{Rep: 3}, wants(3), 2)
		refuses(t, bare("IRep, IZero 3, IRep, ITo"), api.Env{}, api.ErrVerify)
		refuses(t, full("IHold"), api.Env{}, api.ErrForm)
		runs(t, full("INum 4, ISet 1, IBy"), env(), wants(11), 3)
		runs(t, full("IHave 1:2, IFail 3, ITo"), env(), holds(api.Taint), 2)
		runs(t, full("ITry 3, IFail 1, IDone 4, IFail 2, ITo"), env(), holds(api.DivZero), 3)
	}
}

func TestCallsOnlyTheLayersBelow(t *testing.T) {
	files, err := filepath.Glob("*.go")
	if err != nil || len(files) == 0 {
		t.Fatal(files, err)
	}
	below := []string{"capstan/api", "capstan/fix", "capstan/cron", "capstan/window", "capstan/core", "capstan/verify"}
	for _, file := range files {
		if strings.HasSuffix(file, "_test.go") {
			continue
		}
		parsed, err := parser.ParseFile(token.NewFileSet(), file, nil, parser.ImportsOnly)
		if err != nil {
			t.Fatal(err)
		}
		for _, spec := range parsed.Imports {
			path, _ := strconv.Unquote(spec.Path.Value)
			if strings.HasPrefix(path, "capstan/") && !slices.Contains(below, path) {
				t.Errorf("%s imports %s", file, path)
			}
		}
	}
}
