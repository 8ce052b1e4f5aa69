package prune

import (
	"reflect"
	"slices"

	"capstan/api"
)

// The chapter's three steps once more, as they stand there, with the operations by their numbers and nothing of the
// program's own.

func plainPrune(p api.Plan) api.Plan {
	p.Guards, p.Final = plainGuards(p.Guards, p.Final)
	for i := range p.Guards {
		p.Guards[i].Then = plainLadders(p.Guards[i].Then)
	}
	p.Final = plainLadders(p.Final)
	wins, crons := plainNumbers(p, 4), plainNumbers(p, 5)
	for i, g := range p.Guards {
		p.Guards[i] = api.Guard{When: plainRenewed(g.When, wins, crons), Then: plainRenewed(g.Then, wins, crons)}
	}
	p.Final = plainRenewed(p.Final, wins, crons)
	p.Wins, p.Crons = plainLeft(p.Wins, wins), plainLeft(p.Crons, crons)
	return p
}

// plainGuards leaves them from the first that is always met, then picks those that may be met.
func plainGuards(guards []api.Guard, final api.Core) ([]api.Guard, api.Core) {
	met := slices.IndexFunc(guards, func(g api.Guard) bool { return g.When.Op == 2 && g.When.N == 1 })
	if met >= 0 {
		guards, final = guards[:met], guards[met].Then
	}
	return slices.DeleteFunc(slices.Clone(guards), func(g api.Guard) bool { return g.When.Op == 2 }), final
}

type plainRung struct {
	bound, action api.Core
}

func plainLadders(c api.Core) api.Core {
	parts := slices.Clone(c.Parts)
	for i, part := range parts {
		parts[i] = plainLadders(part)
	}
	c.Parts = parts
	if c.Op != 32 {
		return c
	}
	var rungs []plainRung
	for i := 1; i+1 < len(parts); i += 2 {
		rungs = append(rungs, plainRung{parts[i], parts[i+1]})
	}
	final := parts[len(parts)-1]
	for i := len(rungs) - 1; i >= 0; i-- {
		behind := final
		if i+1 < len(rungs) {
			behind = rungs[i+1].action
		}
		if plainAlike(rungs[i].action, behind) {
			rungs = slices.Delete(rungs, i, i+1)
		}
	}
	c.Parts = []api.Core{parts[0]}
	for _, r := range rungs {
		c.Parts = append(c.Parts, r.bound, r.action)
	}
	c.Parts = append(c.Parts, final)
	return c
}

// plainAlike answers whether both are the same when lists without elements are all nil.
func plainAlike(a, b api.Core) bool {
	return reflect.DeepEqual(plainNil(a), plainNil(b))
}

func plainNil(c api.Core) api.Core {
	var parts []api.Core
	for _, part := range c.Parts {
		parts = append(parts, plainNil(part))
	}
	c.Parts = parts
	return c
}

// plainNumbers answers, rising, the numbers that stand in p's cores of that operation.
func plainNumbers(p api.Plan, op int) []int64 {
	var found []int64
	var look func(api.Core)
	look = func(c api.Core) {
		if c.Op == op {
			found = append(found, c.N)
		}
		for _, part := range c.Parts {
			look(part)
		}
	}
	for _, g := range p.Guards {
		look(g.When)
		look(g.Then)
	}
	look(p.Final)
	slices.Sort(found)
	return slices.Compact(found)
}

func plainRenewed(c api.Core, wins, crons []int64) api.Core {
	switch c.Op {
	case 4:
		c.N = int64(slices.Index(wins, c.N))
	case 5:
		c.N = int64(slices.Index(crons, c.N))
	}
	c.Parts = slices.Clone(c.Parts)
	for i, part := range c.Parts {
		c.Parts[i] = plainRenewed(part, wins, crons)
	}
	return c
}

func plainLeft[T any](list []T, numbers []int64) []T {
	var left []T
	for _, n := range numbers {
		left = append(left, list[n])
	}
	return left
}
