package core

import (
	"math"
	"math/big"

	"capstan/api"
	"capstan/cron"
	"capstan/window"
)

// What the chapter's tables say, once more, as plainly as they stand there: numbers are worked out without bounds
// and held at the end, and reasons are handed up as results.

// plainArity answers how many parts the operation has, as api's remarks say; -1 of OLadder and of what is none.
func plainArity(op int) int {
	switch {
	case op >= 1 && op <= 6, op == 29:
		return 0
	case op >= 7 && op <= 13, op == 30, op == 31:
		return 1
	case op >= 14 && op <= 27:
		return 2
	case op == 28:
		return 3
	}
	return -1
}

// plainRange is what N and M may be.
type plainRange struct {
	leastN, mostN, leastM, mostM int64
}

func plainRangeOf(op, wins, crons, locals int) plainRange {
	switch op {
	case 1:
		return plainRange{leastN: math.MinInt64, mostN: math.MaxInt64}
	case 2:
		return plainRange{mostN: 1}
	case 4:
		return plainRange{mostN: int64(max(wins, 0)) - 1}
	case 5:
		return plainRange{mostN: int64(max(crons, 0)) - 1}
	case 6:
		return plainRange{1, 3, 1, 2}
	case 7:
		return plainRange{mostN: int64(max(locals, 0)) - 1}
	case 13:
		return plainRange{0, math.MaxInt64, 1, math.MaxInt64}
	}
	return plainRange{}
}

// plainSort is what Sort has to say.
func plainSort(c api.Core, wins, crons, locals int) int {
	if c.Op < 1 || c.Op > 32 || c.Op != 32 && len(c.Parts) != plainArity(c.Op) {
		return 0
	}
	r := plainRangeOf(c.Op, wins, crons, locals)
	if c.N < r.leastN || c.N > r.mostN || c.M < r.leastM || c.M > r.mostM {
		return 0
	}
	var s []int
	for _, part := range c.Parts {
		s = append(s, plainSort(part, wins, crons, locals))
	}
	want := func(sort int, ok bool) int {
		if ok {
			return sort
		}
		return 0
	}
	switch {
	case c.Op == 1 || c.Op == 3 || c.Op == 4:
		return 1
	case c.Op == 2 || c.Op == 5:
		return 2
	case c.Op == 6:
		return int(c.M)
	case c.Op == 7:
		return want(s[0], s[0] != 3)
	case c.Op == 9:
		return want(2, s[0] == 2)
	case c.Op <= 13:
		return want(1, s[0] == 1)
	case c.Op <= 17 || c.Op == 23 || c.Op == 24:
		return want(1, s[0] == 1 && s[1] == 1)
	case c.Op <= 22:
		return want(2, s[0] == 1 && s[1] == 1)
	case c.Op <= 26:
		return want(2, s[0] == 2 && s[1] == 2)
	case c.Op == 27:
		return want(s[0], s[0] == s[1] && s[0] != 3)
	case c.Op == 28:
		return want(s[1], s[0] == 2 && s[1] == s[2] && s[1] != 3)
	case c.Op == 29:
		return 3
	case c.Op <= 31:
		return want(3, s[0] == 1)
	}
	return want(3, plainLadder(c, s))
}

func plainLadder(c api.Core, s []int) bool {
	if len(s) < 2 || s[0] != 1 || s[len(s)-1] != 3 {
		return false
	}
	rungs, sorts := c.Parts[1:len(s)-1], s[1:len(s)-1]
	least := new(big.Int).Sub(big.NewInt(math.MinInt64), big.NewInt(1))
	for len(rungs) > 0 {
		if len(rungs) == 1 || rungs[0].Op != 1 || sorts[0] != 1 || sorts[1] != 3 {
			return false
		}
		bound := big.NewInt(rungs[0].N)
		if bound.Cmp(least) <= 0 {
			return false
		}
		rungs, sorts, least = rungs[2:], sorts[2:], bound
	}
	return true
}

func plainHeld(n *big.Int) api.Result {
	switch {
	case n.IsInt64():
		return api.Result{N: n.Int64()}
	case n.Sign() < 0:
		return api.Result{N: math.MinInt64}
	}
	return api.Result{N: math.MaxInt64}
}

// plainOver answers a divided by b, rounded down.
func plainOver(a, b *big.Int) *big.Int {
	n, rest := new(big.Int).QuoRem(a, b, new(big.Int))
	if rest.Sign() != 0 && rest.Sign() != b.Sign() {
		n.Sub(n, big.NewInt(1))
	}
	return n
}

// plainCount is fix.Count: the greatest whole number whose micro-units are at most those of a, rounded up and held.
func plainCount(a int64) int64 {
	one := big.NewInt(1000000)
	up := new(big.Int).Neg(plainOver(new(big.Int).Neg(big.NewInt(a)), one))
	ceil := plainHeld(up.Mul(up, one)).N
	return plainOver(big.NewInt(ceil), one).Int64()
}

func plainTruth(holds bool) api.Result {
	if holds {
		return api.Result{N: 1}
	}
	return api.Result{}
}

// plainEval is what a core of sort 1 or 2 comes to.
func plainEval(c api.Core, v api.Env) api.Result {
	switch c.Op {
	case 1, 2:
		return api.Result{N: c.N}
	case 3:
		return plainHeld(new(big.Int).Mul(big.NewInt(v.Rep), big.NewInt(1000000)))
	case 4:
		if v.Wins[c.N].Reason != 0 {
			return api.Result{Reason: v.Wins[c.N].Reason}
		}
		return api.Result{N: v.Wins[c.N].N}
	case 5:
		return plainTruth(v.Crons[c.N])
	case 6:
		return api.Result{Reason: api.Reason(c.N)}
	}
	first := plainEval(c.Parts[0], v)
	if c.Op == 27 && first.Reason != 0 {
		return plainEval(c.Parts[1], v)
	}
	if first.Reason != 0 || c.Op == 7 || c.Op == 27 || c.Op == 25 && first.N == 0 || c.Op == 26 && first.N == 1 {
		return first
	}
	if c.Op == 28 {
		return plainEval(c.Parts[2-first.N], v)
	}
	if len(c.Parts) == 1 {
		return plainOne(c, big.NewInt(first.N))
	}
	second := plainEval(c.Parts[1], v)
	if second.Reason != 0 || c.Op == 25 || c.Op == 26 {
		return second
	}
	return plainTwo(c.Op, big.NewInt(first.N), big.NewInt(second.N))
}

func plainOne(c api.Core, a *big.Int) api.Result {
	one, n := big.NewInt(1000000), new(big.Int)
	switch c.Op {
	case 8:
		n.Neg(a)
	case 9:
		return plainTruth(a.Sign() == 0)
	case 10:
		n.Abs(a)
	case 11:
		n.Neg(n.Mul(plainOver(n.Neg(a), one), one))
	case 12:
		n.Mul(plainOver(a, one), one)
	case 13:
		n = plainOver(n.Mul(a, big.NewInt(c.N)), big.NewInt(c.M))
	}
	return plainHeld(n)
}

func plainTwo(op int, a, b *big.Int) api.Result {
	one, n := big.NewInt(1000000), new(big.Int)
	switch op {
	case 14:
		n.Add(a, b)
	case 15:
		n.Sub(a, b)
	case 16:
		n = plainOver(n.Mul(a, b), one)
	case 17:
		if b.Sign() == 0 {
			return api.Result{Reason: api.DivZero}
		}
		n = plainOver(n.Mul(a, one), b)
	case 18:
		return plainTruth(a.Cmp(b) < 0)
	case 19:
		return plainTruth(a.Cmp(b) <= 0)
	case 20:
		return plainTruth(a.Cmp(b) == 0)
	case 21:
		return plainTruth(a.Cmp(b) > 0)
	case 22:
		return plainTruth(a.Cmp(b) >= 0)
	case 23:
		n = a
		if b.Cmp(a) < 0 {
			n = b
		}
	case 24:
		n = a
		if b.Cmp(a) > 0 {
			n = b
		}
	}
	return plainHeld(n)
}

// plainAction is what an action says.
func plainAction(c api.Core, v api.Env) api.Raw {
	if c.Op == 29 {
		return api.Raw{Hold: true, Reason: api.Asked}
	}
	asked := plainEval(c.Parts[0], v)
	if asked.Reason != 0 {
		return api.Raw{Hold: true, Reason: asked.Reason}
	}
	switch c.Op {
	case 30:
		return api.Raw{Want: plainCount(asked.N)}
	case 31:
		return api.Raw{Want: plainHeld(new(big.Int).Add(big.NewInt(v.Rep), big.NewInt(plainCount(asked.N)))).N}
	}
	for i := 1; i+1 < len(c.Parts); i += 2 {
		if asked.N < c.Parts[i].N {
			return plainAction(c.Parts[i+1], v)
		}
	}
	return plainAction(c.Parts[len(c.Parts)-1], v)
}

// plainDecide is what a formed plan says.
func plainDecide(p api.Plan, v api.Env) api.Raw {
	for _, g := range p.Guards {
		when := plainEval(g.When, v)
		if when.Reason != 0 {
			return api.Raw{Hold: true, Reason: when.Reason}
		}
		if when.N == 1 {
			return plainAction(g.Then, v)
		}
	}
	return plainAction(p.Final, v)
}

// plainNodes answers all nodes of c.
func plainNodes(c api.Core) []api.Core {
	list := []api.Core{c}
	for _, part := range c.Parts {
		list = append(list, plainNodes(part)...)
	}
	return list
}

// plainSame is what Same has to say.
func plainSame(a, b api.Core) bool {
	x, y := plainNodes(a), plainNodes(b)
	if len(x) != len(y) {
		return false
	}
	for i := range x {
		if x[i].Op != y[i].Op || x[i].N != y[i].N || x[i].M != y[i].M || len(x[i].Parts) != len(y[i].Parts) {
			return false
		}
	}
	return true
}

// plainFormed is what Formed has to say of a plan.
func plainFormed(p api.Plan) bool {
	if len(p.Metrics) > 64 || len(p.Wins) > 256 || len(p.Crons) > 256 || p.Locals < 0 || p.Locals > 256 {
		return false
	}
	r := p.Rules
	if r.Min < 0 || r.Min > r.Max || r.Max < 1 || r.Max > 1000000 || r.Step < 1 || r.Step > 1000000 {
		return false
	}
	if r.Up < 0 || r.Up > 604800 || r.Down < 0 || r.Down > 604800 {
		return false
	}
	for _, w := range p.Wins {
		if !window.Right(w) || w.Metric < 0 || w.Metric >= len(p.Metrics) {
			return false
		}
	}
	for _, c := range p.Crons {
		if !cron.Formed(c) {
			return false
		}
	}
	var nodes []api.Core
	for _, g := range p.Guards {
		if plainSort(g.When, len(p.Wins), len(p.Crons), p.Locals) != 2 || plainSort(g.Then, len(p.Wins), len(p.Crons), p.Locals) != 3 {
			return false
		}
		nodes = append(append(nodes, plainNodes(g.When)...), plainNodes(g.Then)...)
	}
	nodes = append(nodes, plainNodes(p.Final)...)
	if plainSort(p.Final, len(p.Wins), len(p.Crons), p.Locals) != 3 || len(nodes) > 4096 {
		return false
	}
	for _, x := range nodes {
		for _, y := range nodes {
			if x.Op == 7 && y.Op == 7 && x.N == y.N && !plainSame(x.Parts[0], y.Parts[0]) {
				return false
			}
		}
	}
	return true
}
