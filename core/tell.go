package core

import (
	"errors"
	"strconv"

	"capstan/api"
	"capstan/fix"
)

// missing is the error of a core that comes to a reason, and of an action that holds for one.
type missing struct {
	reason api.Reason
}

func (m missing) Error() string {
	return "reason " + strconv.Itoa(int(m.reason))
}

// reasonOf answers the reason that err is about; Fine, if there is none.
func reasonOf(err error) api.Reason {
	var m missing
	if errors.As(err, &m) {
		return m.reason
	}
	return api.Fine
}

// teller tells what formed cores say in an Env that has the windows and schedules that they ask for.
type teller struct {
	rows []row
	env  api.Env
}

func newTeller(v api.Env) *teller {
	return &teller{rows: rows(), env: v}
}

// result answers what c, a number or a truth, comes to.
func (t *teller) result(c api.Core) api.Result {
	n, err := t.tell(c)
	if reason := reasonOf(err); reason != api.Fine {
		return api.Result{Reason: reason}
	}
	return api.Result{N: n}
}

// raw answers what p says.
func (t *teller) raw(p api.Plan) api.Raw {
	want, err := t.plan(p)
	if reason := reasonOf(err); reason != api.Fine {
		return api.Raw{Hold: true, Reason: reason}
	}
	return api.Raw{Want: want}
}

// plan answers the count that p wants; or the reason for which it holds.
func (t *teller) plan(p api.Plan) (int64, error) {
	for _, guard := range p.Guards {
		met, err := t.tell(guard.When)
		if err != nil {
			return 0, err
		}
		if met == 1 {
			return t.tell(guard.Then)
		}
	}
	return t.tell(p.Final)
}

// tell answers what c comes to; of an action, the count that it wants.
func (t *teller) tell(c api.Core) (int64, error) {
	return t.rows[c.Op].work(t, c)
}

// pair answers what the two parts of c come to; the second isn't asked, if the first comes to a reason.
func (t *teller) pair(c api.Core) (a, b int64, err error) {
	a, err = t.tell(c.Parts[0])
	if err != nil {
		return 0, 0, err
	}
	b, err = t.tell(c.Parts[1])
	return a, b, err
}

func (t *teller) own(c api.Core) (int64, error) {
	return c.N, nil
}

func (t *teller) replicas(api.Core) (int64, error) {
	return fix.Whole(t.env.Rep), nil
}

func (t *teller) win(c api.Core) (int64, error) {
	told := t.env.Wins[c.N]
	if told.Reason != api.Fine {
		return 0, missing{told.Reason}
	}
	return told.N, nil
}

func (t *teller) cron(c api.Core) (int64, error) {
	return truthOf(t.env.Crons[c.N]), nil
}

func (t *teller) fail(c api.Core) (int64, error) {
	return 0, missing{api.Reason(c.N)}
}

// memo works its part out each time: that it need be done just once is for those who keep locals.
func (t *teller) memo(c api.Core) (int64, error) {
	return t.tell(c.Parts[0])
}

func (t *teller) scale(c api.Core) (int64, error) {
	a, err := t.tell(c.Parts[0])
	if err != nil {
		return 0, err
	}
	return fix.Scale(a, c.N, c.M), nil
}

func (t *teller) div(c api.Core) (int64, error) {
	a, b, err := t.pair(c)
	if err != nil {
		return 0, err
	}
	n, ok := fix.Div(a, b)
	if !ok {
		return 0, missing{api.DivZero}
	}
	return n, nil
}

func (t *teller) and(c api.Core) (int64, error) {
	a, err := t.tell(c.Parts[0])
	if err != nil || a == 0 {
		return 0, err
	}
	return t.tell(c.Parts[1])
}

func (t *teller) or(c api.Core) (int64, error) {
	a, err := t.tell(c.Parts[0])
	if err != nil || a == 1 {
		return a, err
	}
	return t.tell(c.Parts[1])
}

func (t *teller) either(c api.Core) (int64, error) {
	a, err := t.tell(c.Parts[0])
	if reasonOf(err) != api.Fine {
		return t.tell(c.Parts[1])
	}
	return a, err
}

func (t *teller) choice(c api.Core) (int64, error) {
	a, err := t.tell(c.Parts[0])
	if err != nil {
		return 0, err
	}
	if a == 1 {
		return t.tell(c.Parts[1])
	}
	return t.tell(c.Parts[2])
}

func (t *teller) hold(api.Core) (int64, error) {
	return 0, missing{api.Asked}
}

func (t *teller) to(c api.Core) (int64, error) {
	a, err := t.tell(c.Parts[0])
	if err != nil {
		return 0, err
	}
	return fix.Count(a), nil
}

func (t *teller) by(c api.Core) (int64, error) {
	change, err := t.to(c)
	if err != nil {
		return 0, err
	}
	return fix.Add(t.env.Rep, change), nil
}

func (t *teller) ladder(c api.Core) (int64, error) {
	v, err := t.tell(c.Parts[0])
	if err != nil {
		return 0, err
	}
	last := len(c.Parts) - 1
	for i := 1; i < last; i += 2 {
		if c.Parts[i].N > v {
			return t.tell(c.Parts[i+1])
		}
	}
	return t.tell(c.Parts[last])
}
