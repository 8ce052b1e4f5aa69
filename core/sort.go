package core

import (
	"slices"

	"capstan/api"
)

// The sorts of cores.
const (
	none   = 0 // not formed
	number = 1
	truth  = 2
	action = 3
)

// sorter finds the sorts of cores where there are so many windows, schedules and locals.
type sorter struct {
	rows                []row
	wins, crons, locals int
}

// sort answers the sort of c. Each part is asked just once, so that deep trees take no longer than
// they have nodes.
func (s *sorter) sort(c api.Core) int {
	if c.Op < api.ONum || c.Op > api.OLadder {
		return none
	}
	kind := s.rows[c.Op]
	if !kind.fits(s, c) {
		return none
	}
	parts := make([]int, len(c.Parts))
	for i, part := range c.Parts {
		parts[i] = s.sort(part)
		if parts[i] == none {
			return none
		}
	}
	return kind.sort(c, parts)
}

// below answers whether n is the number of one of count things.
func below(n int64, count int) bool {
	return n >= 0 && n < int64(count)
}

func (s *sorter) ofWins(c api.Core) bool {
	return below(c.N, s.wins) && c.M == 0
}

func (s *sorter) ofCrons(c api.Core) bool {
	return below(c.N, s.crons) && c.M == 0
}

func (s *sorter) ofLocals(c api.Core) bool {
	return below(c.N, s.locals) && c.M == 0
}

func plain(_ *sorter, c api.Core) bool {
	return c.N == 0 && c.M == 0
}

func anyNumber(_ *sorter, c api.Core) bool {
	return c.M == 0
}

func zeroOrOne(_ *sorter, c api.Core) bool {
	return below(c.N, 2) && c.M == 0
}

func factor(_ *sorter, c api.Core) bool {
	return c.N >= 0 && c.M >= 1
}

// reasonAndSort: the reasons that a plan may name itself are those of a missing number.
func reasonAndSort(_ *sorter, c api.Core) bool {
	return c.N >= int64(api.NoData) && c.N <= int64(api.Taint) && (c.M == number || c.M == truth)
}

// makes answers how the sort of an operation is found that is of one sort, if its parts are of
// just these.
func makes(sort int, takes ...int) func(api.Core, []int) int {
	return func(_ api.Core, parts []int) int {
		if !slices.Equal(parts, takes) {
			return none
		}
		return sort
	}
}

func failSort(c api.Core, parts []int) int {
	if len(parts) != 0 {
		return none
	}
	return int(c.M)
}

func memoSort(_ api.Core, parts []int) int {
	return alike(parts, 1)
}

func eitherSort(_ api.Core, parts []int) int {
	return alike(parts, 2)
}

func choiceSort(_ api.Core, parts []int) int {
	if len(parts) == 0 || parts[0] != truth {
		return none
	}
	return alike(parts[1:], 2)
}

// alike answers the sort of the parts, if they are so many, and all numbers, or all truths.
func alike(parts []int, count int) int {
	if len(parts) != count || parts[0] == action {
		return none
	}
	for _, part := range parts {
		if part != parts[0] {
			return none
		}
	}
	return parts[0]
}

func ladderSort(c api.Core, parts []int) int {
	last := len(parts) - 1
	if last < 1 || last%2 == 0 || parts[0] != number || parts[last] != action {
		return none
	}
	for i := 1; i < last; i += 2 {
		if c.Parts[i].Op != api.ONum || parts[i+1] != action {
			return none
		}
		if i > 1 && c.Parts[i].N <= c.Parts[i-2].N {
			return none
		}
	}
	return action
}
