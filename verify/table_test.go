package verify

import (
	"fmt"
	"testing"

	"capstan/api"
)

// within answers a program of so many numbers put on the stack, that instruction, and a way to the end that takes them all.
func within(before int, i api.Instr, behind int) api.Program {
	p := full(9, "")
	for range before {
		p.Code = append(p.Code, api.Instr{Op: api.IRep})
	}
	p.Code = append(p.Code, i)
	for range behind {
		p.Code = append(p.Code, api.Instr{Op: api.IDrop})
	}
	p.Code = append(p.Code, api.Instr{Op: api.IHold})
	return p
}

// Each that leads to the next one alone: with what it needs, and one less; what stands behind it tells how many it leaves.
func TestP23_1NeedsAndLeaves(t *testing.T) {
	for op := api.INum; op <= api.IDrop; op++ {
		var needs, more int
		switch {
		case op <= api.ICron, op == api.IFail:
			needs, more = 0, 1
		case op <= api.IScale, op == api.ISet:
			needs, more = 1, 0
		case op <= api.IMax2:
			needs, more = 2, -1
		case op == api.ICopy:
			needs, more = 1, 1
		case op == api.IDrop:
			needs, more = 1, -1
		default:
			continue
		}
		a := int64(0)
		if op == api.IFail || op == api.IScale {
			a = 1
		}
		for before := range 5 {
			for behind := range 8 {
				p := within(before, api.Instr{Op: op, A: a}, behind)
				switch left := before + more; {
				case before < needs:
					refuses(t, p, before)
				case behind < left:
					refuses(t, p, before+1+behind) // the IHold
				case behind > left:
					refuses(t, p, before+1+left) // an IDrop
				default:
					accepts(t, p)
				}
			}
		}
	}
}

func TestP23_1OpsThatAreNone(t *testing.T) {
	for _, op := range []int{0, -1, 34, 35, 63, 64, 127, 128, 255, 256, 256 + api.IRep, 1<<16 + api.IRep, 1<<32 + api.IRep, most, least, least + api.IRep} {
		for _, a := range []int64{0, 1, 2} {
			refuses(t, within(2, api.Instr{Op: op, A: a}, 3), 2)
			refuses(t, within(0, api.Instr{Op: op, A: a}, 1), 0)
		}
	}
}

// far answers numbers far from all that A may be, but near to it if bits were lost.
func far(n int64) []int64 {
	return []int64{least, most, least + n, -1 << 32, n - 1<<32, n + 1<<32, n + 1<<16, n + 256, n + 1<<62, -n - 1<<62, -16384 + n, -16384}
}

// args wants that the instruction, behind two numbers, is accepted for the As from first to last, and for no others.
func args(t *testing.T, op int, first, last int64, make func(api.Instr) api.Program) {
	t.Helper()
	for a := first; a <= last; a++ {
		accepts(t, make(api.Instr{Op: op, A: a}))
	}
	for _, a := range append(append(far(first), far(last)...), first-1, last+1, first-2, last+2, 16384, 32768) {
		refuses(t, make(api.Instr{Op: op, A: a}), 2)
	}
}

func TestP23_1WhatAMayBe(t *testing.T) {
	leaving := func(behind int) func(api.Instr) api.Program {
		return func(i api.Instr) api.Program { return within(2, i, behind) }
	}
	args(t, api.INum, 0, 3, leaving(3))
	args(t, api.IRep, 0, 0, leaving(3))
	args(t, api.IWin, 0, 2, leaving(3))
	args(t, api.ICron, 0, 2, leaving(3))
	args(t, api.IFail, 1, 3, leaving(3))
	for op := api.INeg; op <= api.IFloor; op++ {
		args(t, op, 0, 0, leaving(2))
	}
	for op := api.IAdd; op <= api.IMax2; op++ {
		args(t, op, 0, 0, leaving(1))
	}
	args(t, api.ISet, 0, 2, leaving(2))
	args(t, api.ICopy, 0, 0, leaving(3))
	args(t, api.IDrop, 0, 0, leaving(1))
	ending := func(before string) func(api.Instr) api.Program {
		return func(i api.Instr) api.Program {
			p := full(9, before)
			p.Code = append(p.Code, i)
			return p
		}
	}
	args(t, api.IHold, 0, 0, ending("IJump 1, IJump 2"))
	args(t, api.ITo, 0, 0, ending("IRep, INeg"))
	args(t, api.IBy, 0, 0, ending("IRep, INeg"))
}

// A constant, a window, a schedule, a local each have their own numbers.
func TestP23_1NumbersOfEachList(t *testing.T) {
	for _, x := range []struct {
		op    int
		count func(p *api.Program, n int)
	}{
		{api.INum, func(p *api.Program, n int) { p.Consts = make([]int64, n) }},
		{api.IWin, func(p *api.Program, n int) { p.Wins = append(p.Wins, p.Wins...)[:n] }},
		{api.ICron, func(p *api.Program, n int) { p.Crons = append(p.Crons, p.Crons...)[:n] }},
		{api.ISet, func(p *api.Program, n int) { p.Locals = n }},
	} {
		for n := range 6 {
			args(t, x.op, 0, int64(n)-1, func(i api.Instr) api.Program {
				p := within(2, i, 3)
				if x.op == api.ISet {
					p = within(2, i, 2)
				}
				x.count(&p, n)
				return p
			})
		}
	}
}

func TestP23_1Factors(t *testing.T) {
	with := func(consts ...int64) func(api.Instr) api.Program {
		return func(i api.Instr) api.Program {
			p := within(2, i, 2)
			p.Consts = consts
			return p
		}
	}
	args(t, api.IScale, 0, -1, with())
	args(t, api.IScale, 0, -1, with(1))
	args(t, api.IScale, 0, 0, with(1, 1))
	args(t, api.IScale, 0, 1, with(1, 1, 1))
	args(t, api.IScale, 0, 2, with(1, 1, 1, 1))
	args(t, api.IScale, 2, 2, with(-1, 0, 0, 1))
	args(t, api.IScale, 1, 1, with(5, 0, 1, -1))
	args(t, api.IScale, 1, 2, with(-1, 1, 1, 1))
	args(t, api.IScale, 0, 0, with(most, most, 0))
	for _, x := range []struct {
		n, m int64
		fine bool
	}{
		{0, 1, true}, {0, most, true}, {most, 1, true}, {most, most, true}, {1, 2, true}, {2, 1, true},
		{-1, 1, false}, {least, 1, false}, {0, 0, false}, {1, 0, false}, {1, -1, false}, {1, least, false}, {-1, -1, false}, {most, least, false},
	} {
		if p := with(x.n, x.m)(api.Instr{Op: api.IScale}); x.fine {
			accepts(t, p)
		} else {
			refuses(t, p, 2)
		}
	}
}

// leap answers a program in which the instruction at 2 may lead to 3 to 8, where the machine comes with that state.
func leap(i api.Instr) api.Program {
	before, behind := "IJump 1, IJump 2", "IJump 4, IJump 5, IJump 6, IJump 7, IJump 8, IHold"
	switch i.Op {
	case api.IZero:
		before = "IJump 1, IRep"
	case api.IDone:
		before = "IJump 1, ITry 8"
	}
	p := full(9, before)
	p.Code = append(append(p.Code, i), instructions(behind)...)
	return p
}

func TestP23_1Targets(t *testing.T) {
	args(t, api.IZero, 3, 8, leap)
	// Those between the jump and its target must be led to as well.
	accepts(t, leap(api.Instr{Op: api.IJump, A: 3}))
	accepts(t, leap(api.Instr{Op: api.IDone, A: 3}))
	for target := int64(4); target <= 8; target++ {
		refuses(t, leap(api.Instr{Op: api.IJump, A: target}), 3)
		refuses(t, leap(api.Instr{Op: api.IDone, A: target}), 3)
	}
	for _, op := range []int{api.IJump, api.IZero, api.ITry, api.IDone} {
		for _, a := range append(append(far(3), far(8)...), 2, 1, 0, -1, 9, 10, 16384, 16384+3, 16384+8, 2*16384+3) {
			refuses(t, leap(api.Instr{Op: op, A: a}), 2)
		}
	}
	// A try leads to its target as it is, and to the next one with one try more.
	high(t, bare(0, "ITry 2, IDone 2, IHold"), 0, 0, 0)
	high(t, bare(1, "IRep, ITry 3, IDone 3, ITo"), 0, 1, 1, 1)
	high(t, bare(2, "IRep, ITry 5, IRep, IZero 4, IDone 5, ITo"), 0, 1, 1, 2, 1, 1)
}

func TestP23_1LocalsAndTargets(t *testing.T) {
	for _, l := range []string{"0", "1", "2"} {
		high(t, full(1, "IHave "+l+":2, IRep, ITo"), 0, 0, 1)
		high(t, full(1, "IHave "+l+":3, IRep, INeg, ITo"), 0, 0, 1, 1)
		high(t, full(1, "IJump 1, IHave "+l+":4, IRep, INeg, ITo"), 0, 0, 0, 1, 1)
		high(t, full(3, "IRep, IHave "+l+":3, IRep, IHave "+l+":5, IRep, IAdd, IAdd, ITo"), 0, 1, 1, 2, 2, 3, 2, 1)
		for _, target := range []int64{-16385, -16384, -16383, -3, -2, -1, 0, 1, 2, 5, 6, 7, 16383} {
			p := full(1, "IJump 1, IJump 2, IHave "+l+":4, IRep, ITo")
			accepts(t, p)
			p.Code[2].A = 16384*number(l) + target
			refuses(t, p, 2)
		}
	}
	for _, locals := range []int{0, 1, 2, 3, 100, 256} {
		for _, l := range []int64{-2, -1, 0, 1, 2, 3, 99, 100, 255, 256, 1 << 18, 1 << 32, 1 << 48, 1<<48 - 1, -1 << 48, 1 << 49} {
			p := full(1, "IHave 0:2, IRep, ITo")
			p.Locals, p.Code[0].A = locals, 16384*l+2
			if l >= 0 && l < int64(locals) {
				accepts(t, p)
			} else {
				refuses(t, p, 0)
			}
		}
	}
	for _, a := range append(far(3), far(16384+3)...) {
		p := full(1, "IJump 1, IJump 2, IHave 0:4, IRep, ITo")
		p.Code[2].A = a
		answers(t, p)
	}
}

// What ends the run needs just what it takes.
func TestP23_1Ends(t *testing.T) {
	for stack := range 4 {
		for tries := range 3 {
			code := ""
			for i := range tries {
				code += fmt.Sprintf("ITry %d, ", 2*tries+stack+1-i)
			}
			for range stack {
				code += "IRep, "
			}
			at := tries + stack
			for op, takes := range map[string]int{"IHold": 0, "ITo": 1, "IBy": 1} {
				if p := bare(9, code+op); tries == 0 && stack == takes {
					accepts(t, p)
				} else if tries == 0 {
					refuses(t, p, at)
				} else {
					p.Code = append(p.Code, instructions("IHold*9")...)
					refuses(t, p, at)
				}
			}
		}
	}
}

func TestP23_1TriesOpen(t *testing.T) {
	refuses(t, bare(1, "IDone 1, IHold"), 0)
	refuses(t, bare(1, "IRep, IDone 2, ITo"), 1)
	refuses(t, bare(1, "ITry 2, IDone 2, IDone 3, IHold"), 2)
	accepts(t, bare(1, "ITry 2, IDone 2, ITry 4, IDone 4, IHold"))
	accepts(t, bare(1, "ITry 4, ITry 3, IDone 3, IDone 4, IHold"))
	// A try may be left with more or less on the stack than it was opened with, if all ways are so.
	accepts(t, bare(1, "ITry 3, IRep, IDone 4, IRep, ITo"))
	accepts(t, bare(1, "IRep, ITry 4, IDrop, IDone 5, IDrop, IHold"))
	refuses(t, bare(1, "IRep, ITry 4, IDrop, IDone 4, IHold"), 3)
}
