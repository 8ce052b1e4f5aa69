package code

import (
	"testing"

	"capstan/api"
)

// nested answers c within so many others.
func nested(times int, c api.Core, around func(api.Core) api.Core) api.Core {
	for range times {
		c = around(c)
	}
	return c
}

// longest answers the plan with the longest code that there is: a ladder of 2046 rungs, with as many nodes as there may be.
func longest() api.Plan {
	wide := ladder(rep)
	for i := range int64(2046) {
		wide.Parts = append(wide.Parts, num(i), hold)
	}
	wide.Parts = append(wide.Parts, to(rep))
	return simple(wide)
}

// As many nodes as there may be, of each kind: no plan comes near a limit of code, constants and height.
func TestP21_1LargePlans(t *testing.T) {
	p := longest()
	got, errno := Emit(p)
	if len(got.Code) != 1+2046*6+3 || len(got.Consts) != 2046 || errno != api.OK {
		t.Error(len(got.Code), len(got.Consts), errno)
	}
	sound(t, p)
	p.Final.Parts[len(p.Final.Parts)-1] = to(neg(rep))
	noProgram(t, p, api.ErrForm)
	var next int64
	for _, x := range []struct {
		nodes  int // of one more around
		around func(api.Core) api.Core
		truth  bool
	}{
		{1, neg, false},
		{1, func(c api.Core) api.Core { return of(api.ONot, c) }, true},
		{1, func(c api.Core) api.Core { next += 2; return scaled(next, next+1, c) }, false},
		{2, func(c api.Core) api.Core { next++; return plus(num(next), c) }, false},
		{2, func(c api.Core) api.Core { next++; return plus(c, num(next)) }, false},
		{2, func(c api.Core) api.Core { return of(api.OAnd, c, sched(8)) }, true},
		{2, func(c api.Core) api.Core { return of(api.OAnd, sched(8), c) }, true},
		{2, func(c api.Core) api.Core { return of(api.OOr, c, sched(8)) }, true},
		{2, func(c api.Core) api.Core { return of(api.OOr, sched(8), c) }, true},
		{2, func(c api.Core) api.Core { return of(api.OEither, c, win(0)) }, false},
		{2, func(c api.Core) api.Core { return of(api.OEither, win(0), c) }, false},
		{3, func(c api.Core) api.Core { return of(api.OIf, c, no, yes) }, true},
		{3, func(c api.Core) api.Core { return of(api.OIf, sched(0), c, rep) }, false},
		{3, func(c api.Core) api.Core { return of(api.OIf, sched(0), rep, c) }, false},
	} {
		large := func(nodes int) api.Plan {
			if x.truth {
				return simple(hold, guard(nested((nodes-3)/x.nodes, sched(0), x.around), hold))
			}
			return simple(to(nested((nodes-2)/x.nodes, rep, x.around)))
		}
		sound(t, large(api.MaxCore))
		noProgram(t, large(api.MaxCore+3), api.ErrForm)
	}
}

func TestP21_1LargePlansOfGuardsAndLocals(t *testing.T) {
	p := simple(hold)
	for range 2047 {
		p.Guards = append(p.Guards, guard(sched(0), hold))
	}
	got, errno := Emit(p)
	if len(got.Code) != 2047*3+1 || got.Height != 1 || errno != api.OK {
		t.Error(len(got.Code), got.Height, errno)
	}
	sound(t, p)
	p.Guards = append(p.Guards, guard(sched(0), hold))
	noProgram(t, p, api.ErrForm)
	// All locals, and jumps as far as they go.
	p = simple(hold)
	p.Locals = 256
	for i := range int64(256) {
		p.Guards = append(p.Guards, guard(of(api.OLess, memo(i, scaled(i, 1000, rep)), memo(i, scaled(i, 1000, rep))), to(memo(i, scaled(i, 1000, rep)))))
	}
	sound(t, p)
	c := nested(250, rep, neg)
	for i := range int64(256) {
		c = memo(i, nested(13, c, neg))
	}
	p = simple(to(c))
	p.Locals = 256
	sound(t, p)
	got, _ = Emit(p)
	if got.Code[0].A != 255*16384+int64(len(got.Code))-1 {
		t.Error(got.Code[0], len(got.Code))
	}
}

// No formed plan has so much code; what the limits are is asked of programs.
func TestP21_1Limits(t *testing.T) {
	for _, x := range []struct {
		code, consts, height int
		large                bool
	}{
		{0, 0, 0, false}, {1, 0, 0, false}, {16384, 16384, 4096, false},
		{16385, 0, 0, true}, {1, 16385, 0, true}, {1, 0, 4097, true}, {16385, 16385, 4097, true},
	} {
		p := api.Program{Code: make([]api.Instr, x.code), Consts: make([]int64, x.consts), Height: x.height}
		if large(p) != x.large {
			t.Error(x)
		}
	}
}

// There are at most three times as many instructions as nodes, and twice as many constants, and a stack is at most as high as
// there are nodes: so ErrLarge is never answered while these are less than the limits.
func TestP21_1NoFormedPlanIsTooLarge(t *testing.T) {
	if 3*api.MaxCore >= api.MaxCode || 2*api.MaxCore >= api.MaxConsts || api.MaxCore > api.MaxHeight {
		t.Error("a formed plan may be too large: this wants tests of ErrLarge")
	}
	m := newMaker(9)
	for range 3000 {
		p := m.plan()
		got, errno := Emit(p)
		if nodes := total(p); errno != api.OK || len(got.Code) > 3*nodes || len(got.Consts) > 2*nodes || got.Height > nodes {
			t.Fatalf("Emit(%s), of %d nodes: %d, %d, %d", brief(p), nodes, len(got.Code), len(got.Consts), got.Height)
		}
	}
}
