package check

import (
	"capstan/api"
	"capstan/cron"
	"capstan/dim"
	"capstan/window"
)

// size is how many nodes a core has, and how many of these are windows and schedules.
type size struct {
	nodes, wins, crons int
}

func (s size) plus(t size) size {
	return size{s.nodes + t.nodes, s.wins + t.wins, s.crons + t.crons}
}

// worked is what is worked out for a term. Cores of several terms may share memory: a let's core
// stands in each place of its name, and is copied only when the plan is made.
type worked struct {
	nature
	size
	core api.Core
}

// ops are the operations of the kinds that have parts, and of KHold.
var ops = [...]int{
	api.KNeg: api.ONeg, api.KNot: api.ONot, api.KAbs: api.OAbs, api.KCeil: api.OCeil, api.KFloor: api.OFloor,
	api.KAdd: api.OAdd, api.KSub: api.OSub, api.KMul: api.OMul, api.KDiv: api.ODiv,
	api.KLess: api.OLess, api.KLeq: api.OLeq, api.KEq: api.OEq, api.KMore: api.OMore, api.KMeq: api.OMeq,
	api.KAnd: api.OAnd, api.KOr: api.OOr,
	api.KMin: api.OMin, api.KMax: api.OMax, api.KEither: api.OEither, api.KIf: api.OIf,
	api.KHold: api.OHold, api.KTo: api.OTo, api.KBy: api.OBy, api.KLadder: api.OLadder,
}

// term answers what is worked out for t; or the first fault in it.
func (c *checker) term(t api.Term) (worked, error) {
	parts, err := c.parts(t)
	if err != nil {
		return worked{}, err
	}
	w, errno := c.node(t, parts)
	if errno == api.OK && w.nodes > api.MaxCore {
		errno = api.ErrLarge
	}
	if errno != api.OK {
		return worked{}, fault{t.At, errno}
	}
	return w, nil
}

// parts answers what is worked out for the parts of t, from the left.
func (c *checker) parts(t api.Term) ([]worked, error) {
	if t.Kind == api.KLadder {
		return c.rungs(t)
	}
	list := make([]worked, len(t.Parts))
	for i, part := range t.Parts {
		w, err := c.term(part)
		if err != nil {
			return nil, err
		}
		list[i] = w
	}
	return list, nil
}

// node answers what is worked out for t, whose parts are worked out; or what is wrong with t itself.
func (c *checker) node(t api.Term, parts []worked) (worked, api.Errno) {
	switch t.Kind {
	case api.KNum:
		return number(t)
	case api.KName:
		return c.name(t.Text)
	case api.KTrue:
		return leaf(api.OBool, 1, nature{truth: true}), api.OK
	case api.KFalse:
		return leaf(api.OBool, 0, nature{truth: true}), api.OK
	case api.KReplicas:
		return leaf(api.ORep, 0, nature{dim: repDim}), api.OK
	case api.KCron:
		return c.schedule(t.Text)
	case api.KSum, api.KAvg, api.KLow, api.KHigh, api.KCount, api.KRank:
		return c.window(t)
	}
	is, errno := natureOf(t.Kind, parts)
	if errno != api.OK {
		return worked{}, errno
	}
	return over(api.Core{Op: ops[t.Kind]}, is, parts...), api.OK
}

// leaf answers a node without parts.
func leaf(op int, n int64, is nature) worked {
	return over(api.Core{Op: op, N: n}, is)
}

// over answers the node, of that type, over these parts.
func over(node api.Core, is nature, parts ...worked) worked {
	w := worked{nature: is, size: size{nodes: 1}, core: node}
	for _, part := range parts {
		w.size = w.size.plus(part.size)
		w.core.Parts = append(w.core.Parts, part.core)
	}
	return w
}

// number answers what is worked out for a KNum.
func number(t api.Term) (worked, api.Errno) {
	unit, errno := unitOf(t.Text)
	if errno != api.OK {
		return worked{}, errno
	}
	return leaf(api.ONum, dim.Value(unit, t.N), nature{dim: unit.Dim}), api.OK
}

// unitOf answers the unit of a bracket's text; one, if there is none.
func unitOf(text string) (api.Unit, api.Errno) {
	if text == "" {
		return api.Unit{Num: 1, Den: 1}, api.OK
	}
	unit, _, errno := dim.Read(text)
	if errno == api.ErrLong { // a bracket may hold more bytes than a unit has: as a text it is fine
		errno = api.ErrUnit
	}
	return unit, errno
}

// name answers what is worked out for a let.
func (c *checker) name(text string) (worked, api.Errno) {
	w, known := c.lets[text]
	if !known {
		return worked{}, api.ErrName
	}
	return w, api.OK
}

func (c *checker) schedule(text string) (worked, api.Errno) {
	read, _, errno := cron.Read(text)
	if errno != api.OK {
		return worked{}, api.ErrCron
	}
	w := leaf(api.OCron, int64(len(c.crons)), nature{truth: true})
	w.crons = 1
	c.crons = append(c.crons, read)
	return w, api.OK
}

func (c *checker) window(t api.Term) (worked, api.Errno) {
	m, known := c.metrics[t.Text]
	if !known {
		return worked{}, api.ErrName
	}
	// The aggregates stand in the order of the kinds.
	win := api.Win{Metric: m.number, Agg: t.Kind - api.KSum + api.ASum, Span: t.N, Rank: t.M}
	if !window.Right(win) { // t is formed: only a rank's percentage can be wrong
		return worked{}, api.ErrRange
	}
	w := leaf(api.OWin, int64(len(c.wins)), nature{dim: m.unit.Dim})
	w.wins = 1
	c.wins = append(c.wins, win)
	if t.Kind == api.KCount { // how many samples there are has nothing of what they measure
		w.nature = nature{}
		return w, api.OK
	}
	if m.unit.Num == 1 && m.unit.Den == 1 {
		return w, api.OK
	}
	return over(api.Core{Op: api.OScale, N: m.unit.Num, M: m.unit.Den}, w.nature, w), api.OK
}
