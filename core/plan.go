package core

import (
	"capstan/api"
	"capstan/cron"
	"capstan/window"
)

func cooldown(seconds int64) bool {
	return seconds >= 0 && seconds <= api.MaxSpan
}

// fewEnough answers whether p has no more of anything than a plan may have.
func fewEnough(p api.Plan) bool {
	lists := len(p.Metrics) <= api.MaxMetrics && len(p.Wins) <= api.MaxWins && len(p.Crons) <= api.MaxCrons
	return lists && p.Locals >= 0 && p.Locals <= api.MaxLocals && fewNodes(p)
}

// fewNodes answers whether the cores of p have at most MaxCore nodes together.
func fewNodes(p api.Plan) bool {
	left := api.MaxCore
	return walkPlan(p, func(api.Core) bool {
		left--
		return left >= 0
	})
}

// rightLists answers whether the windows and schedules of p are such as a plan may have.
func rightLists(p api.Plan) bool {
	for _, w := range p.Wins {
		if !window.Right(w) || w.Metric >= len(p.Metrics) {
			return false
		}
	}
	return all(p.Crons, cron.Formed)
}

// rightSorts answers whether the cores of p are of the sorts that their places ask for.
func rightSorts(p api.Plan) bool {
	s := sorter{rows: rows(), wins: len(p.Wins), crons: len(p.Crons), locals: p.Locals}
	guards := all(p.Guards, func(g api.Guard) bool {
		return s.sort(g.When) == truth && s.sort(g.Then) == action
	})
	return guards && s.sort(p.Final) == action
}

// likeMemos answers whether in p, whose cores are formed, all OMemos with one N have the same part.
func likeMemos(p api.Plan) bool {
	firsts := map[int64]api.Core{}
	return walkPlan(p, func(c api.Core) bool {
		if c.Op != api.OMemo {
			return true
		}
		first, known := firsts[c.N]
		if !known {
			firsts[c.N] = c.Parts[0]
			return true
		}
		return Same(first, c.Parts[0])
	})
}

// walkPlan goes through the nodes of p, till visit says no; it answers whether none did.
func walkPlan(p api.Plan, visit func(api.Core) bool) bool {
	guards := all(p.Guards, func(g api.Guard) bool {
		return walk(g.When, visit) && walk(g.Then, visit)
	})
	return guards && walk(p.Final, visit)
}

// walk goes through the nodes of c, each ahead of its parts, till visit says no; it answers whether
// none did.
func walk(c api.Core, visit func(api.Core) bool) bool {
	return visit(c) && all(c.Parts, func(part api.Core) bool { return walk(part, visit) })
}

// all answers whether what is asked holds of all elements; none behind the first of which it
// doesn't is asked.
func all[T any](list []T, ask func(T) bool) bool {
	for _, x := range list {
		if !ask(x) {
			return false
		}
	}
	return true
}

func copyGuard(g api.Guard) api.Guard {
	return api.Guard{When: copyCore(g.When), Then: copyCore(g.Then)}
}

func copyCore(c api.Core) api.Core {
	c.Parts = each(c.Parts, copyCore)
	return c
}

// each answers a new list of what change makes of the elements.
func each[T any](list []T, change func(T) T) []T {
	if list == nil {
		return nil
	}
	made := make([]T, len(list))
	for i, x := range list {
		made[i] = change(x)
	}
	return made
}
