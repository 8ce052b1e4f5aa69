package verify

import "capstan/api"

// localUnit is how much a local's number counts in an IHave's A; the rest is the target.
const localUnit = 16384

// place is what is known of an instruction: whether one ahead leads to it, and with which state.
type place struct {
	led  bool
	with state
}

// walker looks at the instructions of a program whose head is right. One look at each is enough: all
// that leads to one stands ahead of it.
type walker struct {
	p      api.Program
	places []place
}

// walked answers a place for each instruction of p; or ErrVerify, and the number of the first one with
// a fault, or 0, if p's head isn't right.
func walked(p api.Program) ([]place, int, api.Errno) {
	if !headRight(p) {
		return nil, 0, api.ErrVerify
	}
	w := walker{p: p, places: make([]place, len(p.Code))}
	w.places[0].led = true
	for at := range p.Code {
		if !w.sound(at) {
			return nil, at, api.ErrVerify
		}
	}
	return w.places, 0, api.OK
}

// sound answers whether the instruction has no fault, and tells those to which it leads their states.
func (w *walker) sound(at int) bool {
	here, i := w.places[at], w.p.Code[at]
	r, known := rowOf(i.Op)
	if !here.led || !known || !w.mayBe(r.arg, at, i.A) || !r.suits(here.with) {
		return false
	}
	next, target := here.with.plus(r.next), here.with.plus(r.target)
	switch r.leads {
	case toNext:
		return w.lead(at+1, next)
	case toTarget:
		return w.lead(targetOf(i.A), target)
	case toBoth:
		return w.lead(targetOf(i.A), target) && w.lead(at+1, next)
	}
	return true
}

// targetOf answers the target that is told by an A, with a local or without one: as there are at most
// localUnit instructions, a target alone is its own rest.
func targetOf(a int64) int {
	return int(a % localUnit)
}

// lead answers whether the machine may come with the state s to the instruction of that number.
func (w *walker) lead(at int, s state) bool {
	if at >= len(w.places) || s.numbers > w.p.Height || s.tries > api.MaxHeight {
		return false
	}
	old := w.places[at]
	w.places[at] = place{led: true, with: s}
	return !old.led || old.with == s
}

// mayBe answers whether a is what arg says, as the A of the instruction of that number.
func (w *walker) mayBe(arg, at int, a int64) bool {
	switch arg {
	case aConstant:
		return below(a, len(w.p.Consts))
	case aFactors:
		return below(a, len(w.p.Consts)-1) && w.p.Consts[a] >= 0 && w.p.Consts[a+1] >= 1
	case aWindow:
		return below(a, len(w.p.Wins))
	case aSchedule:
		return below(a, len(w.p.Crons))
	case aReason:
		return a >= int64(api.NoData) && a <= int64(api.Taint)
	case aTarget:
		return w.leadsOn(at, a)
	case aLocal:
		return below(a, w.p.Locals)
	case aBoth:
		return below(a/localUnit, w.p.Locals) && w.leadsOn(at, a%localUnit)
	}
	return a == 0
}

// leadsOn answers whether there is an instruction number a, and it stands behind the one number at.
func (w *walker) leadsOn(at int, a int64) bool {
	return a > int64(at) && below(a, len(w.places))
}

// below answers whether a is the number of one of so many things.
func below(a int64, count int) bool {
	return a >= 0 && a < int64(count)
}
