package core

import (
	"math"
	"slices"
	"testing"

	"capstan/api"
)

func decideIs(t *testing.T, p api.Plan, v api.Env, want api.Raw) {
	t.Helper()
	if got, errno := Decide(p, v); got != want || errno != api.OK {
		t.Errorf("Decide(%s, %s) = %v, %d, wanted %v", brief(p), brief(v), got, errno, want)
	}
}

func noDecide(t *testing.T, p api.Plan, v api.Env) {
	t.Helper()
	if got, errno := Decide(p, v); got != (api.Raw{}) || errno != api.ErrForm {
		t.Errorf("Decide(%s, %s) = %v, %d, wanted ErrForm", brief(p), brief(v), got, errno)
	}
}

// says wants that the action says so, as Final, and as what a guard that is met says.
func says(t *testing.T, act api.Core, rep int64, want api.Raw) {
	t.Helper()
	decideIs(t, simple(act), api.Env{Rep: rep}, want)
	p := simple(of(api.OTo, num(-77000000)))
	p.Guards = []api.Guard{{When: no, Then: of(api.OTo, num(-78000000))}, {When: yes, Then: act}, {When: yes, Then: of(api.OTo, num(-79000000))}}
	decideIs(t, p, api.Env{Rep: rep}, want)
}

func held(reason api.Reason) api.Raw {
	return api.Raw{Hold: true, Reason: reason}
}

func TestP15_3Examples(t *testing.T) {
	says(t, of(api.OTo, num(2000001)), 3, api.Raw{Want: 3})
	says(t, of(api.OBy, num(-1500000)), 3, api.Raw{Want: 2})
	says(t, of(api.OLadder, rep, num(3000000), hold, num(5000000), of(api.OBy, num(1000000)), hold), 3, api.Raw{Want: 4})
	noDecide(t, simple(rungs(5, 5)), api.Env{})
}

func TestP15_3Actions(t *testing.T) {
	says(t, hold, 3, held(api.Asked))
	for n, want := range map[int64]int64{0: 0, 1: 1, 1000000: 1, 1000001: 2, -1: 0, -999999: 0, -1000000: -1, -1000001: -1, -2000000: -2, most: 9223372036854, least: -9223372036854} {
		for _, count := range []int64{0, 3, -3, 9} {
			says(t, of(api.OTo, num(n)), count, api.Raw{Want: want})
			says(t, of(api.OBy, num(n)), count, api.Raw{Want: count + want})
		}
	}
	says(t, of(api.OTo, rep), 5, api.Raw{Want: 5})
	says(t, of(api.OTo, rep), -5, api.Raw{Want: -5})
	says(t, of(api.OTo, rep), most, api.Raw{Want: 9223372036854})
	says(t, of(api.OBy, num(most)), most, api.Raw{Want: most})
	says(t, of(api.OBy, num(1)), most, api.Raw{Want: most})
	says(t, of(api.OBy, num(-1)), most, api.Raw{Want: most})
	says(t, of(api.OBy, num(-1000000)), most, api.Raw{Want: most - 1})
	says(t, of(api.OBy, num(-1000000)), least, api.Raw{Want: least})
	says(t, of(api.OBy, num(least)), least, api.Raw{Want: least})
	says(t, of(api.OBy, num(1)), least, api.Raw{Want: least + 1})
	for reason := api.NoData; reason <= api.Taint; reason++ {
		says(t, of(api.OTo, fail(reason, 1)), 3, held(reason))
		says(t, of(api.OBy, fail(reason, 1)), 3, held(reason))
		says(t, of(api.OLadder, fail(reason, 1), num(1), of(api.OTo, rep), of(api.OTo, rep)), 3, held(reason))
		says(t, of(api.OLadder, fail(reason, 1), of(api.OTo, rep)), 3, held(reason))
	}
	says(t, of(api.OTo, zero), 3, held(api.DivZero))
}

func TestP15_3Ladders(t *testing.T) {
	asked := func(v int64, ladder api.Core) api.Core {
		ladder.Parts = slices.Clone(ladder.Parts)
		ladder.Parts[0] = num(v)
		return ladder
	}
	// The rung number i says to i.
	for v, want := range map[int64]api.Raw{least: {}, -1: {}, 0: {Want: 1}, 4: {Want: 1}, 5: {Want: 2}, 6: {Want: 2}, 9: {Want: 2}, 10: held(api.Asked), 11: held(api.Asked), most: held(api.Asked)} {
		says(t, asked(v, rungs(0, 5, 10)), 3, want)
	}
	for v, want := range map[int64]api.Raw{least: {Want: 1}, least + 1: {Want: 1}, 0: {Want: 1}, most - 1: {Want: 1}, most: held(api.Asked)} {
		says(t, asked(v, rungs(least, most)), 3, want)
	}
	says(t, asked(7, rungs()), 3, held(api.Asked))
	says(t, of(api.OLadder, num(7), of(api.OTo, num(9000000))), 3, api.Raw{Want: 9})
	// Only the action that is taken is asked.
	lost := of(api.OTo, zero)
	says(t, of(api.OLadder, num(1), num(1), lost, num(2), of(api.OTo, rep), lost), 3, api.Raw{Want: 3})
	says(t, of(api.OLadder, num(1), num(1), of(api.OTo, rep), num(2), lost, hold), 3, held(api.DivZero))
	says(t, of(api.OLadder, num(2), num(1), lost, num(2), lost, of(api.OBy, num(2000000))), 3, api.Raw{Want: 5})
	says(t, of(api.OLadder, num(2), num(1), hold, of(api.OTo, zero)), 3, held(api.DivZero))
	// Ladders in ladders.
	inner := of(api.OLadder, rep, num(3000000), of(api.OTo, num(1000000)), num(4000000), of(api.OTo, num(2000000)), hold)
	says(t, of(api.OLadder, num(1), num(2), inner, lost), 3, api.Raw{Want: 2})
	says(t, of(api.OLadder, num(1), num(0), lost, inner), 2, api.Raw{Want: 1})
	says(t, of(api.OLadder, num(1), num(0), lost, inner), 4, held(api.Asked))
	bounds := make([]int64, 1000)
	for i := range bounds {
		bounds[i] = int64(i) * 10
	}
	says(t, asked(9985, rungs(bounds...)), 3, api.Raw{Want: 999})
	says(t, asked(9990, rungs(bounds...)), 3, held(api.Asked))
	says(t, asked(2345, rungs(bounds...)), 3, api.Raw{Want: 235})
	says(t, deepLast(api.OLadder, 1000, of(api.OTo, num(7000000)), rep), 3, api.Raw{Want: 7})
}

func TestP15_3Guards(t *testing.T) {
	to := func(n int64) api.Core { return of(api.OTo, num(n*api.One)) }
	lost := fail(api.Taint, 2)
	for _, x := range []struct {
		whens []api.Core
		want  api.Raw
	}{
		{nil, api.Raw{Want: 9}}, {[]api.Core{yes}, api.Raw{Want: 1}}, {[]api.Core{no}, api.Raw{Want: 9}}, {[]api.Core{lost}, held(api.Taint)},
		{[]api.Core{no, no}, api.Raw{Want: 9}}, {[]api.Core{no, yes}, api.Raw{Want: 2}}, {[]api.Core{yes, yes}, api.Raw{Want: 1}}, {[]api.Core{yes, lost}, api.Raw{Want: 1}}, {[]api.Core{lost, yes}, held(api.Taint)}, {[]api.Core{no, lost, yes}, held(api.Taint)},
		{[]api.Core{no, no, no, yes, yes}, api.Raw{Want: 4}}, {[]api.Core{fail(api.NoData, 2), lost}, held(api.NoData)}, {[]api.Core{of(api.OLess, zero, rep), yes}, held(api.DivZero)}, {[]api.Core{of(api.OEither, lost, no), yes}, api.Raw{Want: 2}},
		{[]api.Core{of(api.OMeq, rep, num(3000000))}, api.Raw{Want: 1}}, {[]api.Core{of(api.OMore, rep, num(3000000))}, api.Raw{Want: 9}},
	} {
		p := simple(to(9))
		for i, when := range x.whens {
			p.Guards = append(p.Guards, api.Guard{When: when, Then: to(int64(i) + 1)})
		}
		decideIs(t, p, api.Env{Rep: 3}, x.want)
	}
	// What a Then or Final says is asked only where it is its turn; there it may hold, too.
	p := simple(of(api.OTo, zero))
	p.Guards = []api.Guard{{When: yes, Then: to(5)}}
	decideIs(t, p, api.Env{}, api.Raw{Want: 5})
	p.Guards[0].When = no
	decideIs(t, p, api.Env{}, held(api.DivZero))
	p.Guards[0] = api.Guard{When: yes, Then: of(api.OBy, fail(api.Taint, 1))}
	decideIs(t, p, api.Env{}, held(api.Taint))
	p.Guards[0].Then = hold
	decideIs(t, p, api.Env{}, held(api.Asked))
	p = simple(to(9))
	p.Guards = slices.Repeat([]api.Guard{{When: no, Then: hold}}, 2046)
	decideIs(t, p, api.Env{}, api.Raw{Want: 9})
}

func TestP15_3APlanOfAllKinds(t *testing.T) {
	v := func(a, b, c api.Result, crons ...bool) api.Env {
		return api.Env{Rep: 4, Wins: []api.Result{a, b, c}, Crons: crons}
	}
	n := func(n int64) api.Result { return api.Result{N: n} }
	why := func(reason api.Reason) api.Result { return api.Result{Reason: reason, N: 5} }
	p := plan()
	decideIs(t, p, v(n(0), n(0), n(0), true, true), held(api.Asked))
	decideIs(t, p, v(why(7), why(7), why(7), true, true), held(api.Asked))
	decideIs(t, p, v(n(3), n(0), n(1000), true, false), api.Raw{Want: 1})
	decideIs(t, p, v(n(-9), n(0), n(-3000000000), true, false), api.Raw{Want: -3})
	decideIs(t, p, v(why(api.NoData), n(0), why(api.Taint), true, false), held(api.NoData))
	decideIs(t, p, v(n(0), n(0), why(api.Taint), true, false), held(api.Taint))
	decideIs(t, p, v(why(api.NoData), n(0), why(api.Taint), false, false), api.Raw{Want: 3})
	decideIs(t, p, v(n(5), n(1), n(0), true, false), held(api.Asked))
	decideIs(t, p, v(n(5), n(7), n(0), true, false), api.Raw{Want: 5})
	decideIs(t, p, v(n(0), n(2000001), n(0), false, false), api.Raw{Want: 7})
	decideIs(t, p, v(n(0), why(99), n(0), false, false), held(99))
	decideIs(t, p, v(n(0), why(-3), n(0), false, false), held(-3))
	decideIs(t, p, v(n(0), why(api.CoolUp), n(0), false, false), held(api.CoolUp))
}

func TestP15_3AnotherEnv(t *testing.T) {
	p := plan()
	for wins := range 6 {
		for crons := range 5 {
			v := api.Env{Wins: make([]api.Result, wins), Crons: make([]bool, crons)}
			if wins == 3 && crons == 2 {
				decideIs(t, p, v, api.Raw{Want: -1})
			} else {
				noDecide(t, p, v)
			}
		}
	}
	decideIs(t, simple(hold), api.Env{}, held(api.Asked))
	decideIs(t, simple(hold), api.Env{Wins: []api.Result{}, Crons: []bool{}}, held(api.Asked))
	noDecide(t, simple(hold), api.Env{Wins: make([]api.Result, 1)})
	noDecide(t, simple(hold), api.Env{Crons: make([]bool, 1)})
	noDecide(t, simple(hold), api.Env{Wins: make([]api.Result, 257)})
	noDecide(t, api.Plan{}, api.Env{})
	q := plan() // windows and schedules that no core asks for count as well
	q.Guards, q.Final, q.Locals = nil, hold, 0
	noDecide(t, q, api.Env{})
	noDecide(t, q, api.Env{Wins: make([]api.Result, 2), Crons: make([]bool, 3)})
	decideIs(t, q, api.Env{Wins: make([]api.Result, 3), Crons: make([]bool, 2)}, held(api.Asked))
}

func TestP15_3NotFormed(t *testing.T) {
	v := api.Env{Rep: 3, Wins: make([]api.Result, 3), Crons: make([]bool, 2)}
	for name, spoil := range map[string]func(*api.Plan){
		"metrics":      func(p *api.Plan) { p.Metrics = make([]string, 65) },
		"rules":        func(p *api.Plan) { p.Rules.Step = 0 },
		"a window":     func(p *api.Plan) { p.Wins[1].Span = 0 },
		"its metric":   func(p *api.Plan) { p.Wins[1].Metric = 2 },
		"a schedule":   func(p *api.Plan) { p.Crons[1].Day = 0 },
		"locals":       func(p *api.Plan) { p.Locals = 257 },
		"few locals":   func(p *api.Plan) { p.Locals = 1 },
		"a when":       func(p *api.Plan) { p.Guards[0].When = rep },
		"a then":       func(p *api.Plan) { p.Guards[1].Then = yes },
		"final":        func(p *api.Plan) { p.Final = num(1) },
		"another memo": func(p *api.Plan) { p.Guards[0].Then = of(api.OTo, memo(0, rep)) },
		"nodes":        func(p *api.Plan) { p.Final = of(api.OTo, deep(api.ONeg, 5000, rep)) },
	} {
		p := plan()
		if raw, errno := Decide(p, v); errno != api.OK {
			t.Fatal(raw, errno)
		}
		spoil(&p)
		if raw, errno := Decide(p, v); raw != (api.Raw{}) || errno != api.ErrForm {
			t.Errorf("%s: %v, %d", name, raw, errno)
		}
	}
	noDecide(t, simple(deepLast(api.OLadder, math.MaxUint16, hold, rep)), api.Env{})
}
