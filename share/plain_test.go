package share

import (
	"slices"

	"capstan/api"
	"capstan/core"
)

// The chapter's two steps once more, as they stand there: every node is held against every other one, with nothing of the
// program's own.

type plainPlan struct {
	api.Plan
	nodes []api.Core // all of them, behind the first step
	given []api.Core // the unlike ones that were put into OMemos; their places are their numbers
}

func plainShare(from api.Plan) api.Plan {
	p := plainPlan{Plan: from}
	wins, nowWins := plainOnce(p.Wins)
	crons, nowCrons := plainOnce(p.Crons)
	p.Wins, p.Crons = wins, crons
	p.each(func(c api.Core) api.Core { return plainRenewed(c, nowWins, nowCrons) })
	p.each(p.listed)
	p.each(p.put)
	p.Locals = len(p.given)
	return p.Plan
}

// each puts what change makes of p's cores in their places, in a list of its own.
func (p *plainPlan) each(change func(api.Core) api.Core) {
	var guards []api.Guard
	for _, g := range p.Guards {
		when := change(g.When)
		guards = append(guards, api.Guard{When: when, Then: change(g.Then)})
	}
	p.Guards, p.Final = guards, change(p.Final)
}

func (p *plainPlan) listed(c api.Core) api.Core {
	p.nodes = append(p.nodes, c)
	for _, part := range c.Parts {
		p.listed(part)
	}
	return c
}

func (p *plainPlan) worth(c api.Core) bool {
	sort := core.Sort(c, len(p.Wins), len(p.Crons), 0)
	if sort != 1 && sort != 2 || len(c.Parts) == 0 || c.Op == 7 {
		return false
	}
	times := 0
	for _, other := range p.nodes {
		if core.Same(c, other) {
			times++
		}
	}
	return times >= 2
}

func (p *plainPlan) put(c api.Core) api.Core {
	if p.worth(c) {
		n := slices.IndexFunc(p.given, func(other api.Core) bool { return core.Same(c, other) })
		if n < 0 && len(p.given) < 256 {
			n = len(p.given)
			p.given = append(p.given, c)
		}
		if n >= 0 {
			return api.Core{Op: 7, N: int64(n), Parts: []api.Core{c}}
		}
	}
	c.Parts = slices.Clone(c.Parts)
	for i, part := range c.Parts {
		c.Parts[i] = p.put(part)
	}
	return c
}

// plainOnce answers the list without what is there a second time, and of each number the new one.
func plainOnce[T comparable](list []T) ([]T, []int64) {
	places := map[T]int64{}
	var left []T
	var now []int64
	for _, x := range list {
		if _, there := places[x]; !there {
			places[x] = int64(len(left))
			left = append(left, x)
		}
		now = append(now, places[x])
	}
	return left, now
}

func plainRenewed(c api.Core, wins, crons []int64) api.Core {
	switch c.Op {
	case 4:
		c.N = wins[c.N]
	case 5:
		c.N = crons[c.N]
	}
	c.Parts = slices.Clone(c.Parts)
	for i, part := range c.Parts {
		c.Parts[i] = plainRenewed(part, wins, crons)
	}
	return c
}
