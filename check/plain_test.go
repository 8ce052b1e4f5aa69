package check

import (
	"capstan/api"
	"capstan/cron"
	"capstan/dim"
	"capstan/fix"
	"capstan/tree"
)

// plainCore is a core whose windows and schedules stand in it.
type plainCore struct {
	op    int
	n, m  int64
	win   *api.Win
	cron  *api.Cron
	parts []plainCore
}

// plainTerm is what is worked out for a term: its type is "truth", "action" or a dimension's text.
type plainTerm struct {
	core plainCore
	kind string
	dim  api.Dim
}

// plainFault is thrown where the walk ends.
type plainFault struct {
	at    int
	errno api.Errno
}

func unless(holds bool, at int, errno api.Errno) {
	if !holds {
		panic(plainFault{at, errno})
	}
}

func (c plainCore) nodes() int {
	sum := 1
	for _, part := range c.parts {
		sum += part.nodes()
	}
	return sum
}

// plainCheck tells what Policy tells, by the chapter's words, each item's names looked for in all items ahead.
type plainCheck struct {
	ahead []api.Item
	lets  []plainTerm // those of ahead, in their order
}

func plainPolicy(p api.Policy) (plan api.Plan, at int, errno api.Errno) {
	if !tree.Policy(p) {
		return api.Plan{}, 0, api.ErrForm
	}
	defer func() {
		if f, ok := recover().(plainFault); ok {
			plan, at, errno = api.Plan{}, f.at, f.errno
		}
	}()
	c := &plainCheck{}
	var cores []plainCore
	for _, item := range p.Items {
		cores = append(cores, c.item(item, cores)...)
		c.ahead = append(c.ahead, item)
	}
	return plainPlan(p, cores), 0, api.OK
}

// item answers the cores that the item puts into the plan, behind those that are there.
func (c *plainCheck) item(item api.Item, cores []plainCore) []plainCore {
	switch item.Kind {
	case api.IMetric:
		unless(!c.has(item.Name), item.At, api.ErrTwice)
		plainUnit(item.Unit, item.At)
		unless(len(c.items(api.IMetric)) < 64, item.At, api.ErrLarge)
	case api.IReplicas:
		unless(len(c.items(api.IReplicas)) == 0, item.At, api.ErrTwice)
		whole := item.A%1000000 == 0 && item.B%1000000 == 0 && item.C%1000000 == 0
		unless(whole && item.A <= item.B && item.B >= 1000000 && item.B <= 1000000000000 && item.C <= 1000000000000, item.At, api.ErrRange)
	case api.IUp, api.IDown:
		unless(len(c.items(item.Kind)) == 0, item.At, api.ErrTwice)
	case api.ILet:
		w := c.term(item.Term)
		unless(!c.has(item.Name), item.At, api.ErrTwice)
		c.lets = append(c.lets, w)
	case api.IGuard:
		when, then := c.term(item.Term), c.term(item.Then)
		unless(when.kind == "truth", item.Term.At, api.ErrType)
		return c.fit(item, cores, when.core, then.core)
	case api.IDecide:
		then := c.term(item.Then)
		added := c.fit(item, cores, then.core)
		unless(len(c.items(api.IReplicas)) == 1, item.At, api.ErrMissing)
		return added
	}
	return nil
}

func (c *plainCheck) fit(item api.Item, cores []plainCore, added ...plainCore) []plainCore {
	nodes, wins, crons := 0, 0, 0
	for _, core := range append(append([]plainCore{}, cores...), added...) {
		nodes += core.nodes()
		wins += len(core.gather(api.OWin))
		crons += len(core.gather(api.OCron))
	}
	unless(nodes <= 4096 && wins <= 256 && crons <= 256, item.At, api.ErrLarge)
	return added
}

// gather answers the nodes of the operation, in their order.
func (c plainCore) gather(op int) []plainCore {
	var list []plainCore
	if c.op == op {
		list = append(list, c)
	}
	for _, part := range c.parts {
		list = append(list, part.gather(op)...)
	}
	return list
}

func (c *plainCheck) items(kind int) []api.Item {
	var list []api.Item
	for _, item := range c.ahead {
		if item.Kind == kind {
			list = append(list, item)
		}
	}
	return list
}

func (c *plainCheck) has(name string) bool {
	for _, item := range append(c.items(api.IMetric), c.items(api.ILet)...) {
		if item.Name == name {
			return true
		}
	}
	return false
}

func plainUnit(text string, at int) api.Unit {
	if text == "" {
		return api.Unit{Num: 1, Den: 1}
	}
	u, _, errno := dim.Read(text)
	unless(errno != api.ErrUnit && errno != api.ErrLong, at, api.ErrUnit)
	unless(errno == api.OK, at, api.ErrBig)
	return u
}

func (c *plainCheck) term(t api.Term) plainTerm {
	w := c.own(t)
	unless(w.core.nodes() <= 4096, t.At, api.ErrLarge)
	if w.kind == "" {
		w.kind = dim.Text(w.dim)
	}
	return w
}

func (c *plainCheck) own(t api.Term) plainTerm {
	if t.Kind == api.KLadder {
		return c.ladder(t)
	}
	var p []plainTerm
	core := plainCore{}
	for _, part := range t.Parts {
		w := c.term(part)
		p = append(p, w)
		core.parts = append(core.parts, w.core)
	}
	if t.Kind <= api.KRank {
		return c.leaf(t)
	}
	core.op = map[int]int{
		api.KNeg: 8, api.KNot: 9, api.KAbs: 10, api.KCeil: 11, api.KFloor: 12, api.KAdd: 14, api.KSub: 15, api.KMul: 16, api.KDiv: 17,
		api.KLess: 18, api.KLeq: 19, api.KEq: 20, api.KMore: 21, api.KMeq: 22, api.KMin: 23, api.KMax: 24, api.KAnd: 25, api.KOr: 26, api.KEither: 27, api.KIf: 28,
		api.KHold: 29, api.KTo: 30, api.KBy: 31,
	}[t.Kind]
	kind, d := plainType(t, p)
	return plainTerm{core: core, kind: kind, dim: d}
}

// plainType answers the type of a node with these parts: a kind, or a dimension.
func plainType(t api.Term, p []plainTerm) (string, api.Dim) {
	truths := 0
	for _, part := range p {
		if part.kind == "truth" {
			truths++
		}
	}
	switch t.Kind {
	case api.KHold:
		return "action", api.Dim{}
	case api.KNot, api.KAnd, api.KOr:
		unless(truths == len(p), t.At, api.ErrType)
		return "truth", api.Dim{}
	case api.KEither:
		unless(truths != 1, t.At, api.ErrType)
		unless(p[0].kind == p[1].kind, t.At, api.ErrDim)
		return p[0].kind, p[0].dim
	case api.KIf:
		unless(p[0].kind == "truth", t.At, api.ErrType)
		return plainType(api.Term{Kind: api.KEither, At: t.At}, p[1:])
	}
	unless(truths == 0, t.At, api.ErrType)
	switch t.Kind {
	case api.KTo, api.KBy:
		unless(p[0].kind == "rep", t.At, api.ErrDim)
		return "action", api.Dim{}
	case api.KMul:
		d, ok := dim.Mul(p[0].dim, p[1].dim)
		unless(ok, t.At, api.ErrDim)
		return "", d
	case api.KDiv:
		d, ok := dim.Div(p[0].dim, p[1].dim)
		unless(ok, t.At, api.ErrDim)
		return "", d
	}
	unless(len(p) == 1 || p[0].kind == p[1].kind, t.At, api.ErrDim)
	if t.Kind >= api.KLess && t.Kind <= api.KMeq {
		return "truth", api.Dim{}
	}
	return "", p[0].dim
}

func (c *plainCheck) leaf(t api.Term) plainTerm {
	switch t.Kind {
	case api.KNum:
		u := plainUnit(t.Text, t.At)
		return plainTerm{core: plainCore{op: api.ONum, n: fix.Scale(t.N, u.Num, u.Den)}, dim: u.Dim}
	case api.KName:
		for i, item := range c.items(api.ILet) {
			if item.Name == t.Text {
				return c.lets[i]
			}
		}
		panic(plainFault{t.At, api.ErrName})
	case api.KTrue:
		return plainTerm{core: plainCore{op: api.OBool, n: 1}, kind: "truth"}
	case api.KFalse:
		return plainTerm{core: plainCore{op: api.OBool}, kind: "truth"}
	case api.KReplicas:
		return plainTerm{core: plainCore{op: api.ORep}, dim: api.Dim{0, 0, 0, 1, 0}}
	case api.KCron:
		read, _, errno := cron.Read(t.Text)
		unless(errno == api.OK, t.At, api.ErrCron)
		return plainTerm{core: plainCore{op: api.OCron, cron: &read}, kind: "truth"}
	}
	for i, item := range c.items(api.IMetric) {
		if item.Name == t.Text {
			return plainWindow(t, i, plainUnit(item.Unit, 0))
		}
	}
	panic(plainFault{t.At, api.ErrName})
}

func plainWindow(t api.Term, number int, u api.Unit) plainTerm {
	unless(t.Kind != api.KRank || t.M >= 1 && t.M <= 100000000, t.At, api.ErrRange)
	w := api.Win{Metric: number, Span: t.N, Rank: t.M}
	w.Agg = map[int]int{api.KSum: api.ASum, api.KAvg: api.AAvg, api.KLow: api.ALow, api.KHigh: api.AHigh, api.KCount: api.ACount, api.KRank: api.ARank}[t.Kind]
	core := plainCore{op: api.OWin, win: &w}
	if t.Kind == api.KCount {
		return plainTerm{core: core}
	}
	if u.Num != u.Den {
		core = plainCore{op: api.OScale, n: u.Num, m: u.Den, parts: []plainCore{core}}
	}
	return plainTerm{core: core, dim: u.Dim}
}

func (c *plainCheck) ladder(t api.Term) plainTerm {
	asked := c.term(t.Parts[0])
	unless(asked.kind != "truth", t.At, api.ErrType)
	core := plainCore{op: api.OLadder, parts: []plainCore{asked.core}}
	for i := 1; i < len(t.Parts); i++ {
		if i%2 == 0 || i == len(t.Parts)-1 {
			core.parts = append(core.parts, c.term(t.Parts[i]).core)
			continue
		}
		bound, number := t.Parts[i], t.Parts[i]
		if bound.Kind == api.KNeg {
			number = bound.Parts[0]
		}
		w := c.leaf(number)
		unless(w.dim == asked.dim, bound.At, api.ErrDim)
		if bound.Kind == api.KNeg {
			w.core.n = -w.core.n // a number is 0 or more: minus it is an int64
		}
		unless(i == 1 || w.core.n > core.parts[i-2].n, bound.At, api.ErrLadder)
		core.parts = append(core.parts, w.core)
	}
	return plainTerm{core: core, kind: "action"}
}

// plainPlan answers the plan of a policy without faults, that has these cores.
func plainPlan(p api.Policy, cores []plainCore) api.Plan {
	var plan api.Plan
	for _, item := range p.Items {
		switch item.Kind {
		case api.IMetric:
			plan.Metrics = append(plan.Metrics, item.Name)
		case api.IReplicas:
			plan.Rules.Min, plan.Rules.Max, plan.Rules.Step = item.A/1000000, item.B/1000000, item.C/1000000
			if item.C == 0 {
				plan.Rules.Step = plan.Rules.Max
			}
		case api.IUp:
			plan.Rules.Up = item.A
		case api.IDown:
			plan.Rules.Down = item.A
		}
	}
	var told []api.Core
	for _, c := range cores {
		told = append(told, c.told(&plan))
	}
	for len(told) > 1 {
		plan.Guards = append(plan.Guards, api.Guard{When: told[0], Then: told[1]})
		told = told[2:]
	}
	plan.Final = told[0]
	return plan
}

func (c plainCore) told(plan *api.Plan) api.Core {
	made := api.Core{Op: c.op, N: c.n, M: c.m}
	if c.win != nil {
		made.N = int64(len(plan.Wins))
		plan.Wins = append(plan.Wins, *c.win)
	}
	if c.cron != nil {
		made.N = int64(len(plan.Crons))
		plan.Crons = append(plan.Crons, *c.cron)
	}
	for _, part := range c.parts {
		made.Parts = append(made.Parts, part.told(plan))
	}
	return made
}
