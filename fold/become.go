package fold

import (
	"capstan/api"
	"capstan/core"
)

// The sorts of cores that are asked for here, as layer 15 numbers them.
const (
	none  = 0 // not formed
	truth = 2
)

// sortOf answers the sort of c, in whatever plan it stands.
func sortOf(c api.Core) int {
	return core.Sort(c, api.MaxWins, api.MaxCrons, api.MaxLocals)
}

func constant(c api.Core) bool {
	return c.Op == api.ONum || c.Op == api.OBool
}

// become answers what c becomes, which is formed and has folded parts. No row of the chapter's table
// fits a core whose first part is neither a constant nor an OFail.
func become(c api.Core) api.Core {
	switch {
	case len(c.Parts) == 0:
		return c
	case constant(c.Parts[0]):
		return ofConstant(c)
	case c.Parts[0].Op == api.OFail:
		return ofFail(c)
	}
	return c
}

// ofConstant answers what c becomes, whose first part is a constant.
func ofConstant(c api.Core) api.Core {
	n := c.Parts[0].N // 0 or 1, where it is a truth
	switch c.Op {
	case api.OIf:
		return c.Parts[2-n]
	case api.OAnd:
		return c.Parts[n]
	case api.OOr:
		return c.Parts[1-n]
	case api.OEither, api.OMemo:
		return c.Parts[0]
	case api.OLadder:
		return actionFor(n, c)
	case api.OTo, api.OBy:
		return c
	}
	return worked(c)
}

// ofFail answers what c becomes, whose first part is an OFail.
func ofFail(c api.Core) api.Core {
	switch c.Op {
	case api.OEither:
		return c.Parts[1]
	case api.OTo, api.OBy, api.OLadder: // no action can be an OFail
		return c
	}
	return failed(c, c.Parts[0].N)
}

// worked answers what c becomes, an operation from ONeg to OMax whose first part is a constant.
func worked(c api.Core) api.Core {
	last := c.Parts[len(c.Parts)-1] // of one part, the first
	switch {
	case last.Op == api.OFail:
		return failed(c, last.N)
	case !constant(last):
		return c
	}
	// No errno can come: a formed core of constants asks for nothing of an Env.
	told, _ := core.Eval(c, api.Env{})
	switch {
	case told.Reason != api.Fine:
		return failed(c, int64(told.Reason))
	case sortOf(c) == truth:
		return api.Core{Op: api.OBool, N: told.N}
	}
	return api.Core{Op: api.ONum, N: told.N}
}

// failed answers the OFail of that reason which may stand in the place of c.
func failed(c api.Core, reason int64) api.Core {
	return api.Core{Op: api.OFail, N: reason, M: int64(sortOf(c))}
}

// actionFor answers the action that the ladder c takes for v.
func actionFor(v int64, c api.Core) api.Core {
	last := len(c.Parts) - 1
	for i := 1; i < last; i += 2 {
		if c.Parts[i].N > v {
			return c.Parts[i+1]
		}
	}
	return c.Parts[last]
}
