package codec

import (
	"bytes"
	"go/parser"
	"go/token"
	"path/filepath"
	"reflect"
	"slices"
	"strconv"
	"strings"
	"testing"
	"unsafe"

	"capstan/api"
)

// span is the memory of a list, its room too.
type span struct{ first, end uintptr }

func spanOf[T any](list []T) span {
	first := uintptr(unsafe.Pointer(unsafe.SliceData(list)))
	return span{first, first + uintptr(cap(list))*unsafe.Sizeof(*new(T))}
}

func spansOf(p api.Program) []span {
	return []span{spanOf(p.Consts), spanOf(p.Wins), spanOf(p.Crons), spanOf(p.Code)}
}

// apart answers whether no two of the spans have memory in common.
func apart(list []span) bool {
	for i, a := range list {
		for _, b := range list[:i] {
			if a.first < b.end && b.first < a.end {
				return false
			}
		}
	}
	return true
}

// roomy answers the list with room behind it in which something stands.
func roomy[T any](list []T, stands T) []T {
	made := append(slices.Clone(list), stands, stands, stands)
	return slices.Clip(made)[:len(list)]
}

func roomyProgram(p api.Program) api.Program {
	p.Consts, p.Wins = roomy(p.Consts, -99), roomy(p.Wins, api.Win{Metric: -99})
	p.Crons, p.Code = roomy(p.Crons, api.Cron{Day: 99}), roomy(p.Code, api.Instr{Op: -99})
	return p
}

// filled answers p with its spare room as elements, in memory of its own.
func filled(p api.Program) api.Program {
	p.Consts, p.Wins = slices.Clone(p.Consts[:cap(p.Consts)]), slices.Clone(p.Wins[:cap(p.Wins)])
	p.Crons, p.Code = slices.Clone(p.Crons[:cap(p.Crons)]), slices.Clone(p.Code[:cap(p.Code)])
	return p
}

func spoil(p api.Program) {
	clear(p.Consts[:cap(p.Consts)])
	clear(p.Wins[:cap(p.Wins)])
	clear(p.Crons[:cap(p.Crons)])
	clear(p.Code[:cap(p.Code)])
}

func shapes() []api.Program {
	list := []api.Program{{}, small(), one(), full(), largest()}
	m := newMaker(5)
	for range 300 {
		list = append(list, m.program(20))
	}
	return list
}

func TestP22_2NothingIsShared(t *testing.T) {
	for _, p := range shapes() {
		a, _ := Encode(p)
		b, _ := Encode(p)
		first, _ := Decode(a)
		second, _ := Decode(a)
		all := slices.Concat([]span{spanOf(a), spanOf(b)}, spansOf(p), spansOf(first), spansOf(second))
		if !apart(all) {
			t.Errorf("the bytes or programs of %s share a list", brief(p))
		}
	}
}

func TestP22_2WhatIsAnsweredIsOnItsOwn(t *testing.T) {
	for _, p := range shapes() {
		want := plainEncode(p)
		a, _ := Encode(p)
		b, _ := Encode(p)
		first, _ := Decode(a)
		second, _ := Decode(a)
		clear(b[:cap(b)])
		spoil(second)
		if !bytes.Equal(a, want) || !sameProgram(first, p) {
			t.Fatalf("%s is now %s, its bytes %s", brief(p), brief(first), brief(a))
		}
		clear(a[:cap(a)])
		if !sameProgram(first, p) {
			t.Fatalf("%s is now %s", brief(p), brief(first))
		}
		spare := filled(p)
		c, _ := Encode(spare)
		kept := slices.Clone(c)
		spoil(spare)
		if !bytes.Equal(c, kept) {
			t.Fatalf("the bytes of %s are now %s", brief(p), brief(c))
		}
	}
}

func TestWhatIsHandedInStaysAsItWas(t *testing.T) {
	for _, p := range append(shapes(), api.Program{Metrics: -1, Consts: []int64{3}}, api.Program{Code: []api.Instr{{Op: 256, A: 3}}}) {
		p := roomyProgram(p)
		before := filled(p)
		Encode(p)
		if !reflect.DeepEqual(filled(p), before) {
			t.Errorf("%s is now %s", brief(before), brief(p))
		}
	}
	for _, p := range shapes() {
		whole := plainEncode(p)
		for _, b := range [][]byte{whole, whole[:len(whole)-1], whole[:40], joined(whole, []byte{1})} {
			b := roomy(b, 0x99)
			before := slices.Clone(b[:cap(b)])
			Decode(b)
			if !bytes.Equal(b[:cap(b)], before) {
				t.Errorf("%s is now %s", brief(before), brief(b))
			}
		}
	}
}

func TestKeepsNothing(t *testing.T) {
	for range 3 {
		encodes(t, full(), fullBytes())
		noBytes(t, api.Program{Height: -1})
		noProgram(t, fullBytes()[:100], api.ErrCode)
		decodes(t, fullBytes(), full())
		noProgram(t, make([]byte, 1048577), api.ErrLong)
		decodes(t, plainEncode(small()), small())
		noProgram(t, nil, api.ErrCode)
		encodes(t, small(), plainEncode(small()))
	}
}

func TestCallsOnlyTheLayersBelow(t *testing.T) {
	files, err := filepath.Glob("*.go")
	if err != nil || len(files) == 0 {
		t.Fatal(files, err)
	}
	for _, file := range files {
		if strings.HasSuffix(file, "_test.go") {
			continue
		}
		parsed, err := parser.ParseFile(token.NewFileSet(), file, nil, parser.ImportsOnly)
		if err != nil {
			t.Fatal(err)
		}
		for _, spec := range parsed.Imports {
			path, _ := strconv.Unquote(spec.Path.Value)
			if strings.HasPrefix(path, "capstan/") && path != "capstan/api" {
				t.Errorf("%s imports %s", file, path)
			}
		}
	}
}
