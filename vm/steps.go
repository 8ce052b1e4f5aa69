package vm

import (
	"capstan/api"
	"capstan/fix"
)

// step is what an operation does in a run, with the A of the instruction.
type step func(r *run, a int64)

// localUnit is how much a local's number counts in an IHave's A; the rest is the target.
const localUnit = 16384

// steps answers what the operations do, each in the place of its number.
func steps() []step {
	return []step{
		api.INum:   (*run).num,
		api.IRep:   (*run).rep,
		api.IWin:   (*run).win,
		api.ICron:  (*run).cron,
		api.IFail:  (*run).failFor,
		api.INeg:   (*run).neg,
		api.INot:   (*run).not,
		api.IAbs:   (*run).abs,
		api.ICeil:  (*run).ceil,
		api.IFloor: (*run).floor,
		api.IScale: (*run).scale,
		api.IAdd:   (*run).add,
		api.ISub:   (*run).sub,
		api.IMul:   (*run).mul,
		api.IDiv:   (*run).div,
		api.ILess:  (*run).less,
		api.ILeq:   (*run).leq,
		api.IEq:    (*run).eq,
		api.IMore:  (*run).more,
		api.IMeq:   (*run).meq,
		api.IMin2:  (*run).lesser,
		api.IMax2:  (*run).greater,
		api.IJump:  (*run).jump,
		api.IZero:  (*run).zero,
		api.ITry:   (*run).open,
		api.IDone:  (*run).done,
		api.IHave:  (*run).have,
		api.ISet:   (*run).set,
		api.IHold:  (*run).hold,
		api.ITo:    (*run).to,
		api.IBy:    (*run).by,
		api.ICopy:  (*run).again,
		api.IDrop:  (*run).drop,
	}
}

func (r *run) num(a int64) { r.put(r.p.Consts[a]) }

func (r *run) rep(int64) { r.put(fix.Whole(r.v.Rep)) }

func (r *run) win(a int64) {
	told := r.v.Wins[a]
	if told.Reason != api.Fine {
		r.fail(told.Reason)
		return
	}
	r.put(told.N)
}

func (r *run) cron(a int64) { r.put(truth(r.v.Crons[a])) }

func (r *run) failFor(a int64) { r.fail(api.Reason(a)) }

func (r *run) neg(int64) { r.put(fix.Neg(r.take())) }

func (r *run) not(int64) { r.put(truth(r.take() == 0)) }

func (r *run) abs(int64) { r.put(fix.Abs(r.take())) }

func (r *run) ceil(int64) { r.put(fix.Ceil(r.take())) }

func (r *run) floor(int64) { r.put(fix.Floor(r.take())) }

func (r *run) scale(a int64) { r.put(fix.Scale(r.take(), r.p.Consts[a], r.p.Consts[a+1])) }

func (r *run) add(int64) { r.put(fix.Add(r.two())) }

func (r *run) sub(int64) { r.put(fix.Sub(r.two())) }

func (r *run) mul(int64) { r.put(fix.Mul(r.two())) }

func (r *run) div(int64) {
	n, ok := fix.Div(r.two())
	if !ok {
		r.fail(api.DivZero)
		return
	}
	r.put(n)
}

func (r *run) less(int64) {
	a, b := r.two()
	r.put(truth(a < b))
}

func (r *run) leq(int64) {
	a, b := r.two()
	r.put(truth(a <= b))
}

func (r *run) eq(int64) {
	a, b := r.two()
	r.put(truth(a == b))
}

func (r *run) more(int64) {
	a, b := r.two()
	r.put(truth(a > b))
}

func (r *run) meq(int64) {
	a, b := r.two()
	r.put(truth(a >= b))
}

func (r *run) lesser(int64) {
	a, b := r.two()
	r.put(min(a, b))
}

func (r *run) greater(int64) {
	a, b := r.two()
	r.put(max(a, b))
}

func (r *run) jump(a int64) { r.at = int(a) }

func (r *run) zero(a int64) {
	if r.take() == 0 {
		r.at = int(a)
	}
}

func (r *run) open(a int64) { r.tries = append(r.tries, try{target: int(a), stack: r.stack}) }

func (r *run) done(a int64) {
	r.shut()
	r.at = int(a)
}

func (r *run) have(a int64) {
	if l := r.locals[a/localUnit]; l.set {
		r.put(l.n)
		r.at = int(a % localUnit)
	}
}

func (r *run) set(a int64) { r.locals[a] = local{set: true, n: r.top()} }

func (r *run) hold(int64) { r.end(api.Raw{Hold: true, Reason: api.Asked}) }

func (r *run) to(int64) { r.end(api.Raw{Want: fix.Count(r.take())}) }

func (r *run) by(int64) { r.end(api.Raw{Want: fix.Add(r.v.Rep, fix.Count(r.take()))}) }

func (r *run) again(int64) { r.put(r.top()) }

func (r *run) drop(int64) { r.take() }

func truth(holds bool) int64 {
	if holds {
		return 1
	}
	return 0
}
