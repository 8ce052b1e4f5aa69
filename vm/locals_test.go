package vm

import (
	"testing"

	"capstan/api"
)

func TestP24_1Locals(t *testing.T) {
	// The first one isn't set, and is worked out; the second one is, and isn't.
	runs(t, full("IHave 1:3, INum 2, ISet 1, IDrop, IHave 1:6, IFail 1, IBy"), env(), wants(6+3), 6)
	leaves(t, full("IHave 1:3, INum 2, ISet 1, IHave 1:5, IFail 1, ISub, ITo"), env(), 0)
	// What is set is the topmost, which stays there.
	leaves(t, full("INum 3, INum 2, ISet 0, ISub, IHave 0:6, IFail 1, IAdd, ITo"), env(), 1000000+2500000)
	// Of another one nothing is known.
	runs(t, full("INum 0, ISet 0, IDrop, IHave 1:5, IFail 3, ITo"), env(), holds(api.Taint), 5)
	runs(t, full("INum 0, ISet 2, IDrop, IHave 1:5, IFail 3, ITo"), env(), holds(api.Taint), 5)
}

// A local may be 0, which is a number as others are; and it may be set anew.
func TestP24_1LocalsOfAnyNumber(t *testing.T) {
	for _, n := range []int64{0, 1, -1, most, least} {
		p := bare("INum 0, ISet 0, IDrop, IHave 0:5, IFail 3, ITo", n)
		p.Locals = 1
		leaves(t, p, api.Env{}, n)
		p.Code = instructions("INum 1, ISet 0, INum 0, ISet 0, IDrop, IDrop, IHave 0:8, IFail 3, ITo")
		p.Consts = []int64{n, 7}
		leaves(t, p, api.Env{}, n)
	}
}

// Each local is told from its neighbours.
func TestP24_1EachLocal(t *testing.T) {
	for l := range int64(256) {
		p := bare("INum 0, ISet 0, IDrop, IHave 0:5, IFail 3, ITo", 8000000)
		p.Locals = 256
		p.Code[3].A += 16384 * l
		for _, set := range []int64{l - 1, l, l + 1} {
			if set < 0 || set > 255 {
				continue
			}
			p.Code[1].A = set
			if set == l {
				runs(t, p, api.Env{}, wants(8), 5)
			} else {
				runs(t, p, api.Env{}, holds(api.Taint), 5)
			}
		}
	}
}

// A local that is set before a try's end stays set behind it, however that ends; what it is set to stays, whatever becomes of the
// stack.
func TestP24_1LocalsAndTries(t *testing.T) {
	for _, last := range []string{"IFail 1", "IRep", "IWin 1"} {
		p := full("ITry 6, INum 4, ISet 2, IFail 1, IDrop, IDone 7, INum 0, IHave 2:10, IFail 3, INeg, ISub, ITo")
		p.Code[3] = instructions(last)[0]
		if last == "IRep" {
			leaves(t, p, env(), 0)
		} else {
			leaves(t, p, env(), 500000-4500000)
		}
	}
	leaves(t, full("INum 4, ISet 0, INeg, IHave 0:5, IFail 3, ISub, ITo"), env(), -9000000)
	leaves(t, full("INum 4, ISet 0, IDrop, INum 1, INeg, IHave 0:7, IFail 3, ISub, ITo"), env(), -6000000)
}

// No local is set at the beginning of a run, whatever was in the one before.
func TestP24_1RunsBeginAnew(t *testing.T) {
	p := full("IHave 0:3, INum 2, ISet 0, IBy")
	m := machine(t, p)
	for n := range int64(5) {
		runs(t, p, env(), wants(9), 4)
		ticks(t, m, n, 6, wants(9), 4)
	}
}
