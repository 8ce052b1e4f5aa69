package code

import (
	"testing"

	"capstan/api"
)

func TestP21_2JumpsLeadOn(t *testing.T) {
	for _, p := range shapes() {
		made, errno := Emit(p)
		if errno != api.OK {
			t.Fatalf("Emit(%s): %d", brief(p), errno)
		}
		leadsOn(t, made)
	}
	// Each kind of jump, as near and as far as it goes: to what stands behind the next instruction, and to the last one.
	for _, x := range []struct {
		p     api.Plan
		at    int // of the jump
		op    int
		place int64
		count int
	}{
		{simple(hold, guard(sched(0), hold)), 1, api.IZero, 3, 4},
		{simple(to(of(api.OIf, sched(0), rep, rep))), 3, api.IJump, 5, 6},
		{simple(to(of(api.OEither, rep, rep))), 0, api.ITry, 3, 5},
		{simple(to(of(api.OEither, rep, rep))), 2, api.IDone, 4, 5},
		{simple(to(memo(0, rep))), 0, api.IHave, 3, 4},
		{simple(hold, guard(sched(0), to(nested(4000, rep, neg)))), 1, api.IZero, 4004, 4005},
		{simple(to(of(api.OIf, sched(0), rep, nested(4000, rep, neg)))), 3, api.IJump, 4005, 4006},
		{simple(to(of(api.OEither, nested(4000, rep, neg), rep))), 0, api.ITry, 4003, 4005},
		{simple(to(of(api.OEither, rep, nested(4000, rep, neg)))), 2, api.IDone, 4004, 4005},
		{simple(to(memo(0, nested(4000, rep, neg)))), 0, api.IHave, 4003, 4004},
	} {
		made, errno := Emit(x.p)
		if errno != api.OK || len(made.Code) != x.count || made.Code[x.at] != (api.Instr{Op: x.op, A: x.place}) {
			t.Errorf("Emit(%s): %d instructions, %v at %d, %d", brief(x.p), len(made.Code), made.Code[x.at], x.at, errno)
		}
		sound(t, x.p)
	}
	// The farthest one of all: past a ladder of one rung less, as the guard and Final want two nodes.
	wide := longest().Final
	wide.Parts = append([]api.Core{rep}, wide.Parts[3:]...)
	p := simple(hold, guard(sched(0), wide))
	made, _ := Emit(p)
	if last := int64(len(made.Code) - 1); made.Code[1] != (api.Instr{Op: api.IZero, A: last}) {
		t.Error(made.Code[1], last)
	}
	sound(t, p)
}

func TestP21_2TheLastInstructionEnds(t *testing.T) {
	for _, x := range []struct {
		final api.Core
		op    int
	}{
		{hold, api.IHold}, {to(rep), api.ITo}, {by(rep), api.IBy},
		{to(memo(0, of(api.OEither, rep, rep))), api.ITo}, {by(of(api.OIf, sched(0), rep, rep)), api.IBy},
		{ladder(rep, hold), api.IHold}, {ladder(rep, num(1), hold, to(rep)), api.ITo}, {ladder(rep, num(1), hold, num(2), to(rep), by(rep)), api.IBy},
		{ladder(rep, num(1), to(rep), ladder(rep, num(1), by(rep), hold)), api.IHold},
	} {
		for _, p := range []api.Plan{simple(x.final), simple(x.final, guard(sched(0), to(rep)), guard(sched(1), by(rep)))} {
			made, errno := Emit(p)
			if errno != api.OK || made.Code[len(made.Code)-1] != (api.Instr{Op: x.op}) {
				t.Errorf("Emit(%s): %s, %d", brief(p), told(made.Code), errno)
			}
		}
	}
}
