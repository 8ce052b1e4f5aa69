package verify

import "capstan/api"

// state is how many numbers stand on the stack, and how many tries are open; or how many more.
type state struct{ numbers, tries int }

func (s state) plus(more state) state {
	return state{s.numbers + more.numbers, s.tries + more.tries}
}

// What A may be.
const (
	aNothing  = iota // 0
	aConstant        // the number of a constant
	aFactors         // the number of a constant that has another one behind it, to multiply and to divide by
	aWindow          // the number of a window
	aSchedule        // the number of a schedule
	aReason          // one for which there is no number
	aTarget          // the number of an instruction farther on
	aLocal           // the number of a local
	aBoth            // the number of a local times localUnit, and a target
)

// Whither an instruction leads.
const (
	toNext   = iota // to the one behind it
	toTarget        // to its target
	toBoth
	toNone // the run is over
)

// row says of some operations what they do to the stack and to the tries.
type row struct {
	first, last int   // the operations
	arg         int   // what A may be
	needs       state // what stands there at least; where the run is over, no more than that
	leads       int   // whither
	next        state // what is more there behind it
	target      state // what is more there at its target
}

var table = [...]row{
	{first: api.INum, last: api.INum, arg: aConstant, next: state{numbers: 1}},
	{first: api.IRep, last: api.IRep, next: state{numbers: 1}},
	{first: api.IWin, last: api.IWin, arg: aWindow, next: state{numbers: 1}},
	{first: api.ICron, last: api.ICron, arg: aSchedule, next: state{numbers: 1}},
	{first: api.IFail, last: api.IFail, arg: aReason, next: state{numbers: 1}},
	{first: api.INeg, last: api.IFloor, needs: state{numbers: 1}},
	{first: api.IScale, last: api.IScale, arg: aFactors, needs: state{numbers: 1}},
	{first: api.IAdd, last: api.IMax2, needs: state{numbers: 2}, next: state{numbers: -1}},
	{first: api.IJump, last: api.IJump, arg: aTarget, leads: toTarget},
	{first: api.IZero, last: api.IZero, arg: aTarget, needs: state{numbers: 1}, leads: toBoth, next: state{numbers: -1}, target: state{numbers: -1}},
	{first: api.ITry, last: api.ITry, arg: aTarget, leads: toBoth, next: state{tries: 1}},
	{first: api.IDone, last: api.IDone, arg: aTarget, needs: state{tries: 1}, leads: toTarget, target: state{tries: -1}},
	{first: api.IHave, last: api.IHave, arg: aBoth, leads: toBoth, target: state{numbers: 1}},
	{first: api.ISet, last: api.ISet, arg: aLocal, needs: state{numbers: 1}},
	{first: api.IHold, last: api.IHold, leads: toNone},
	{first: api.ITo, last: api.IBy, needs: state{numbers: 1}, leads: toNone},
	{first: api.ICopy, last: api.ICopy, needs: state{numbers: 1}, next: state{numbers: 1}},
	{first: api.IDrop, last: api.IDrop, needs: state{numbers: 1}, next: state{numbers: -1}},
}

// rowOf answers the operation's row, and false, if there is no such operation.
func rowOf(op int) (row, bool) {
	for _, r := range table {
		if op >= r.first && op <= r.last {
			return r, true
		}
	}
	return row{}, false
}

// suits answers whether what the row's operations need is there in the state s.
func (r row) suits(s state) bool {
	if r.leads == toNone {
		return s == r.needs
	}
	return s.numbers >= r.needs.numbers && s.tries >= r.needs.tries
}
