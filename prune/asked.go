package prune

import "capstan/api"

// asked answers those of the list, the windows or the schedules of p, whose numbers stand in its
// cores in an op; and the cores get the numbers that these have now.
func asked[T any](p *api.Plan, op int, list []T) []T {
	n := numbers{op: op, stands: make([]bool, len(list)), now: make([]int64, len(list))}
	eachCore(p, n.find)
	var kept []T
	for i, x := range list {
		if n.stands[i] {
			n.now[i] = int64(len(kept))
			kept = append(kept, x)
		}
	}
	eachCore(p, n.renew)
	return kept
}

// numbers is what is known of the numbers in cores of one operation: OWin, or OCron.
type numbers struct {
	op     int
	stands []bool  // of each number: whether it stands in a core
	now    []int64 // of one that does: what it becomes
}

// find goes through c, and keeps which numbers stand there.
func (n *numbers) find(c *api.Core) {
	if c.Op == n.op {
		n.stands[c.N] = true
	}
	for i := range c.Parts {
		n.find(&c.Parts[i])
	}
}

// renew goes through c, and puts there what the numbers become.
func (n *numbers) renew(c *api.Core) {
	if c.Op == n.op {
		c.N = n.now[c.N]
	}
	for i := range c.Parts {
		n.renew(&c.Parts[i])
	}
}
