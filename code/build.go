package code

import (
	"slices"

	"capstan/api"
)

// haveUnit is how much a local's number counts in an IHave's A; the rest is the place to which it
// leads.
const haveUnit = 16384

// plainOps are the instructions of the operations whose code is that of all parts, one behind the
// other, and then just this one, with N as its A.
var plainOps = [...]int{
	api.ORep:   api.IRep,
	api.OWin:   api.IWin,
	api.OCron:  api.ICron,
	api.OFail:  api.IFail,
	api.ONeg:   api.INeg,
	api.ONot:   api.INot,
	api.OAbs:   api.IAbs,
	api.OCeil:  api.ICeil,
	api.OFloor: api.IFloor,
	api.OAdd:   api.IAdd,
	api.OSub:   api.ISub,
	api.OMul:   api.IMul,
	api.ODiv:   api.IDiv,
	api.OLess:  api.ILess,
	api.OLeq:   api.ILeq,
	api.OEq:    api.IEq,
	api.OMore:  api.IMore,
	api.OMeq:   api.IMeq,
	api.OMin:   api.IMin2,
	api.OMax:   api.IMax2,
	api.OHold:  api.IHold,
	api.OTo:    api.ITo,
	api.OBy:    api.IBy,
}

// builder is what is laid of a program so far.
type builder struct {
	code   []api.Instr
	consts []int64
}

// lay puts the instructions behind all that is laid.
func (b *builder) lay(list ...api.Instr) {
	b.code = append(b.code, list...)
}

// jump lays a jump; its A is more, and a place that isn't known yet, in one. What it answers fills A
// in: it is called when all is laid that the jump leads past.
func (b *builder) jump(op int, more int64) func() {
	at := len(b.code)
	b.lay(api.Instr{Op: op})
	return func() {
		b.code[at].A = more + int64(len(b.code))
	}
}

// plan lays the code of p, which is formed.
func (b *builder) plan(p api.Plan) {
	for _, g := range p.Guards {
		b.core(g.When)
		pass := b.jump(api.IZero, 0)
		b.core(g.Then)
		pass()
	}
	b.core(p.Final)
}

// core lays the code of c, which is formed.
func (b *builder) core(c api.Core) {
	switch c.Op {
	case api.ONum, api.OBool:
		b.lay(b.number(c.N))
	case api.OMemo:
		b.memo(c.N, c.Parts[0])
	case api.OScale:
		b.core(c.Parts[0])
		b.lay(api.Instr{Op: api.IScale, A: b.pair(c.N, c.M)})
	case api.OAnd:
		b.choice(c.Parts[0], c.Parts[1], api.Core{Op: api.OBool, N: 0})
	case api.OOr:
		b.choice(c.Parts[0], api.Core{Op: api.OBool, N: 1}, c.Parts[1])
	case api.OIf:
		b.choice(c.Parts[0], c.Parts[1], c.Parts[2])
	case api.OEither:
		b.either(c.Parts[0], c.Parts[1])
	case api.OLadder:
		b.ladder(c.Parts)
	default:
		for _, part := range c.Parts {
			b.core(part)
		}
		b.lay(api.Instr{Op: plainOps[c.Op], A: c.N})
	}
}

// memo lays the code of a number or truth that is worked out only where the local isn't set.
func (b *builder) memo(local int64, c api.Core) {
	have := b.jump(api.IHave, local*haveUnit)
	b.core(c)
	b.lay(api.Instr{Op: api.ISet, A: local})
	have()
}

// choice lays the code of yes, if when holds, else of no.
func (b *builder) choice(when, yes, no api.Core) {
	b.core(when)
	otherwise := b.jump(api.IZero, 0)
	b.core(yes)
	end := b.jump(api.IJump, 0)
	otherwise()
	b.core(no)
	end()
}

// either lays the code of first, and of second for where that comes to a reason.
func (b *builder) either(first, second api.Core) {
	failed := b.jump(api.ITry, 0)
	b.core(first)
	end := b.jump(api.IDone, 0)
	failed()
	b.core(second)
	end()
}

// ladder lays the code of a ladder with these parts. What is asked stays on the stack from rung to
// rung; each action begins without it.
func (b *builder) ladder(parts []api.Core) {
	last := len(parts) - 1
	b.core(parts[0])
	for i := 1; i < last; i += 2 {
		b.lay(api.Instr{Op: api.ICopy}, b.number(parts[i].N), api.Instr{Op: api.ILess})
		next := b.jump(api.IZero, 0)
		b.lay(api.Instr{Op: api.IDrop})
		b.core(parts[i+1])
		next()
	}
	b.lay(api.Instr{Op: api.IDrop})
	b.core(parts[last])
}

// number answers the instruction that puts n on the stack; n is a constant then.
func (b *builder) number(n int64) api.Instr {
	at := slices.Index(b.consts, n)
	if at < 0 {
		at = len(b.consts)
		b.consts = append(b.consts, n)
	}
	return api.Instr{Op: api.INum, A: int64(at)}
}

// pair answers the number of the constant n that has m behind it; both are constants then.
func (b *builder) pair(n, m int64) int64 {
	last := len(b.consts) - 1
	for k := range last {
		if b.consts[k] == n && b.consts[k+1] == m {
			return int64(k)
		}
	}
	if last < 0 || b.consts[last] != n {
		b.consts = append(b.consts, n)
		last++
	}
	b.consts = append(b.consts, m)
	return int64(last)
}
