package share

import (
	"slices"

	"capstan/api"
)

// once answers the list, the windows or the schedules of p, without those that are the same as one
// ahead of them; and the cores of p, which ask by op, get the numbers that there are now.
func once[T comparable](p *api.Plan, op int, list []T) []T {
	var kept []T
	now := make([]int64, len(list)) // of each number: what it becomes
	for i, x := range list {
		at := slices.Index(kept, x)
		if at < 0 {
			at = len(kept)
			kept = append(kept, x)
		}
		now[i] = int64(at)
	}
	for _, c := range cores(p) {
		renew(c, op, now)
	}
	return kept
}

// renew goes through c, and puts there what the numbers in an op become.
func renew(c *api.Core, op int, now []int64) {
	if c.Op == op {
		c.N = now[c.N]
	}
	for i := range c.Parts {
		renew(&c.Parts[i], op, now)
	}
}
