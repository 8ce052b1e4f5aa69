package code

import "capstan/api"

// planHeight answers the greatest height of the stack on any way through the code of p. The stack is
// empty where the code of a guard or of an action begins.
func planHeight(p api.Plan) int {
	most := height(p.Final)
	for _, g := range p.Guards {
		most = max(most, height(g.When), height(g.Then))
	}
	return most
}

// height answers how many numbers stand on the stack at most in the code of c, without those that
// stand there when it begins.
func height(c api.Core) int {
	switch {
	case c.Op == api.OHold:
		return 0
	case len(c.Parts) == 0:
		return 1
	}
	// The parts come to all of it: what c's own instructions put there, a part puts there too.
	most := 0
	for i, part := range c.Parts {
		most = max(most, beneath(c, i)+height(part))
	}
	return most
}

// beneath answers how many numbers of the code of c stand on the stack where that of its part i
// begins.
func beneath(c api.Core, i int) int {
	switch {
	case c.Op >= api.OAdd && c.Op <= api.OMax:
		return i
	case c.Op == api.OLadder && i > 0 && c.Parts[i].Op == api.ONum:
		return 2 // what is asked, and its copy that is held against the bound
	}
	return 0
}
