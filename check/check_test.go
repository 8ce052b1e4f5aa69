package check

import (
	"fmt"
	"reflect"
	"strings"
	"testing"

	"capstan/api"
	"capstan/core"
	"capstan/cron"
)

func num(n int64) api.Core {
	return api.Core{Op: api.ONum, N: n}
}

func of(op int, parts ...api.Core) api.Core {
	return api.Core{Op: op, Parts: parts}
}

func win(n int64) api.Core {
	return api.Core{Op: api.OWin, N: n}
}

func sched(n int64) api.Core {
	return api.Core{Op: api.OCron, N: n}
}

func scaled(n, m int64, part api.Core) api.Core {
	return api.Core{Op: api.OScale, N: n, M: m, Parts: []api.Core{part}}
}

var (
	no   = api.Core{Op: api.OBool}
	yes  = api.Core{Op: api.OBool, N: 1}
	rep  = api.Core{Op: api.ORep}
	hold = api.Core{Op: api.OHold}
)

// all are items in which one of everything can be named.
const all = `policy p; replicas 1..9; metric m; metric lat [ms]; metric req [kreq/min]; metric cpu [pct]; metric one [one]; metric mem [GiB/GiB*B]; ` +
	`let n = 5; let sec = 2[s]; let yes = true; let avgs = avg(lat, 1m); `

func brief(x any) string {
	told := fmt.Sprint(x)
	return told[:min(len(told), 600)]
}

// bare answers the plan with nil in the place of each empty list.
func bare(p api.Plan) api.Plan {
	p = core.Copy(p)
	if len(p.Metrics) == 0 {
		p.Metrics = nil
	}
	if len(p.Wins) == 0 {
		p.Wins = nil
	}
	if len(p.Crons) == 0 {
		p.Crons = nil
	}
	if len(p.Guards) == 0 {
		p.Guards = nil
	}
	for i, g := range p.Guards {
		p.Guards[i] = api.Guard{When: bareCore(g.When), Then: bareCore(g.Then)}
	}
	p.Final = bareCore(p.Final)
	return p
}

func bareCore(c api.Core) api.Core {
	if len(c.Parts) == 0 {
		c.Parts = nil
	}
	for i, part := range c.Parts {
		c.Parts[i] = bareCore(part)
	}
	return c
}

func samePlan(a, b api.Plan) bool {
	return reflect.DeepEqual(bare(a), bare(b))
}

// loaded answers the plan of s, which must have no fault.
func loaded(t *testing.T, s string) api.Plan {
	t.Helper()
	p, at, errno := Load(s)
	if at != 0 || errno != api.OK {
		t.Fatalf("Load(%s): %d at %d", brief(s), errno, at)
	}
	if !core.Formed(p) {
		t.Fatalf("Load(%s) = %s isn't formed", brief(s), brief(p))
	}
	return p
}

// loads wants that the plan of s is p.
func loads(t *testing.T, s string, p api.Plan) {
	t.Helper()
	if got := loaded(t, s); !samePlan(got, p) {
		t.Errorf("Load(%s) = %s, wanted %s", brief(s), brief(got), brief(p))
	}
}

// faulty wants that s, without its mark @, has this fault, where the mark stands.
func faulty(t *testing.T, s string, errno api.Errno) {
	t.Helper()
	at := strings.Index(s, "@")
	if at < 0 {
		t.Fatalf("no mark in %s", brief(s))
	}
	failsAt(t, strings.Replace(s, "@", "", 1), at, errno)
}

func failsAt(t *testing.T, s string, at int, errno api.Errno) {
	t.Helper()
	p, where, why := Load(s)
	if why != errno || where != at || !reflect.DeepEqual(p, api.Plan{}) {
		t.Errorf("Load(%s) = %s, %d at %d, wanted %d at %d", brief(s), brief(p), why, where, errno, at)
	}
}

func TestP16_1Examples(t *testing.T) {
	const head = "policy p; replicas 1..9; "
	loads(t, head+"decide to 2[rep];", api.Plan{Rules: api.Rules{Min: 1, Max: 9, Step: 9}, Final: of(api.OTo, num(2000000))})
	faulty(t, head+"decide @to 2;", api.ErrDim)
	faulty(t, head+"decide @to true;", api.ErrType)
	sum := of(api.OAdd, num(1000000), num(1000))
	p := loaded(t, head+"let x = 1[s] + 1[ms]; guard x = x then hold; decide hold;")
	if !core.Same(p.Guards[0].When, of(api.OEq, sum, sum)) {
		t.Error(p)
	}
	loaded(t, head+"let x = 1[s] + 1[ms]; decide hold;")
	faulty(t, head+"let x = 1[s] @+ 1[req]; decide hold;", api.ErrDim)
	faulty(t, head+"let x = @avg(cpu, 1m); decide hold;", api.ErrName)
	p = loaded(t, head+"metric lat [ms]; let x = avg(lat, 1m); guard x > 1[s] then hold; decide hold;")
	if !core.Same(p.Guards[0].When, of(api.OMore, scaled(1, 1000, win(0)), num(1000000))) {
		t.Error(p)
	}
	faulty(t, head+"decide ladder replicas { 2[rep]: hold, @2[rep]: hold, else: hold };", api.ErrLadder)
	faulty(t, "policy p; @decide hold;", api.ErrMissing)
}

func TestP16_1ExamplesOfTheWhole(t *testing.T) {
	const head = "policy p; replicas 1..9; "
	faulty(t, head+"decide @to 2;", api.ErrDim)
	p := loaded(t, head+"metric cpu [pct]; decide by if(avg(cpu, 1m) > 80[pct], 1[rep], 0[rep]);")
	told := func(p api.Plan, v api.Env) api.Raw {
		raw, errno := core.Decide(p, v)
		if errno != api.OK {
			t.Errorf("%s: %d", brief(p), errno)
		}
		return raw
	}
	none, some := []api.Result{{Reason: api.NoData}}, []api.Result{{N: 90000000}}
	if got := told(p, api.Env{Rep: 2, Wins: none}); got != (api.Raw{Hold: true, Reason: api.NoData}) {
		t.Error(got)
	}
	if got := told(p, api.Env{Rep: 2, Wins: some}); got != (api.Raw{Want: 3}) {
		t.Error(got)
	}
	p = loaded(t, head+"metric cpu [pct]; decide by if(either(avg(cpu, 1m), 0) > 80[pct], 1[rep], 0[rep]);")
	if got := told(p, api.Env{Rep: 2, Wins: none}); got != (api.Raw{Want: 2}) {
		t.Error(got)
	}
	p = loaded(t, head+"let x = 1[s] / 1[ms]; decide to x * 1[rep];")
	if got := told(p, api.Env{Rep: 2}); got != (api.Raw{Want: 1000}) {
		t.Error(got)
	}
	p = loaded(t, head+`guard cron("0 3 * * *") then to 1[rep]; decide to 6[rep];`)
	if got := told(p, api.Env{Rep: 2, Crons: []bool{true}}); got != (api.Raw{Want: 1}) {
		t.Error(got)
	}
	loads(t, "policy p; replicas 1..9 step 2; cooldown up 30s; decide to 9[rep];", api.Plan{Rules: api.Rules{Min: 1, Max: 9, Step: 2, Up: 30}, Final: of(api.OTo, num(9000000))})
	loads(t, head+"metric q; decide ladder sum(q, 10s) { 5: to 1[rep], 10: to 2[rep], else: hold };", api.Plan{
		Metrics: []string{"q"}, Rules: api.Rules{Min: 1, Max: 9, Step: 9}, Wins: []api.Win{{Agg: api.ASum, Span: 10}},
		Final: of(api.OLadder, win(0), num(5000000), of(api.OTo, num(1000000)), num(10000000), of(api.OTo, num(2000000)), hold),
	})
}

// A core of each kind, in a place that takes it: of a number both sides of a comparison.
func TestP16_1Cores(t *testing.T) {
	one, five, two, secs := num(1000000), num(5000000), num(2000000), num(2000000)
	for text, want := range map[string]api.Core{
		"1":                  one,
		"0":                  num(0),
		"0.000001":           num(1),
		"9223372036854[GiB]": num(1<<63 - 1), // held
		"1.5[ms]":            num(1500),
		"0.0015[ms]":         num(1), // rounded down
		"0.000999[ms]":       num(0),
		"3[kreq/min]":        num(50000000),
		"1[pct]":             num(10000),
		"1[]":                one,
		"n":                  five,
		"sec":                secs,
		"replicas":           rep,
		"-1":                 of(api.ONeg, one),
		"-n":                 of(api.ONeg, five),
		"abs(1)":             of(api.OAbs, one),
		"ceil(1)":            of(api.OCeil, one),
		"floor(1)":           of(api.OFloor, one),
		"1 + n":              of(api.OAdd, one, five),
		"1 - n":              of(api.OSub, one, five),
		"1 * sec":            of(api.OMul, one, secs),
		"1 / sec":            of(api.ODiv, one, secs),
		"min(1, n)":          of(api.OMin, one, five),
		"max(1, n)":          of(api.OMax, one, five),
		"either(1, n)":       of(api.OEither, one, five),
		"if(yes, 1, n)":      of(api.OIf, yes, one, five),
		"1 + n * 2":          of(api.OAdd, one, of(api.OMul, five, two)),
	} {
		p := loaded(t, all+"guard "+text+" = "+text+" then hold; decide hold;")
		if got := p.Guards[0].When; !core.Same(got, of(api.OEq, want, want)) {
			t.Errorf("%s: %s, wanted %s", text, brief(got), brief(want))
		}
	}
	for text, want := range map[string]api.Core{
		"true":                  yes,
		"false":                 no,
		"yes":                   yes,
		`cron("0 3 * * *")`:     sched(0),
		"not true":              of(api.ONot, yes),
		"1 < n":                 of(api.OLess, one, five),
		"1 <= n":                of(api.OLeq, one, five),
		"1 = n":                 of(api.OEq, one, five),
		"1 > n":                 of(api.OMore, one, five),
		"1 >= n":                of(api.OMeq, one, five),
		"false and yes":         of(api.OAnd, no, yes),
		"false or yes":          of(api.OOr, no, yes),
		"either(false, yes)":    of(api.OEither, no, yes),
		"if(yes, false, true)":  of(api.OIf, yes, no, yes),
		"not (n < 1) and false": of(api.OAnd, of(api.ONot, of(api.OLess, five, one)), no),
	} {
		p := loaded(t, all+"guard "+text+" then hold; decide hold;")
		if got := p.Guards[0].When; !core.Same(got, want) {
			t.Errorf("%s: %s, wanted %s", text, brief(got), brief(want))
		}
	}
}

func TestP16_1Actions(t *testing.T) {
	one, by := num(1000000), of(api.OBy, of(api.ONeg, num(1500000)))
	for text, want := range map[string]api.Core{
		"hold":                              hold,
		"to replicas":                       of(api.OTo, rep),
		"to 1[rep*s/s]":                     of(api.OTo, one),
		"to n * 1[rep]":                     of(api.OTo, of(api.OMul, num(5000000), one)),
		"by -1.5[rep]":                      by,
		"ladder n { else: hold }":           of(api.OLadder, num(5000000), hold),
		"ladder n { 1: hold, else: hold }":  of(api.OLadder, num(5000000), one, hold, hold),
		"ladder n { -1: hold, else: hold }": of(api.OLadder, num(5000000), num(-1000000), hold, hold),
		"ladder n { -0: hold, else: hold }": of(api.OLadder, num(5000000), num(0), hold, hold),
		"ladder sec { -0.0015[ms]: hold, 0[d]: by -1.5[rep], 1[ms]: hold, 1[min]: ladder 1 { 1: hold, else: to replicas }, else: hold }": of(api.OLadder, num(2000000),
			num(-1), hold, num(0), by, num(1000), hold, num(60000000), of(api.OLadder, one, one, hold, of(api.OTo, rep)), hold),
		"ladder 1[GiB] { -9223372036854[GiB]: hold, 9223372036854[GiB]: hold, else: hold }": of(api.OLadder, num(1<<30*1000000), num(-(1<<63 - 1)), hold, num(1<<63-1), hold, hold),
		"ladder 1 { 1: ladder 1 { 1: hold, else: hold }, 2: ladder 1[s] { 1[ms]: hold, else: hold }, else: ladder 1 { else: hold } }": of(api.OLadder, one,
			one, of(api.OLadder, one, one, hold, hold), num(2000000), of(api.OLadder, one, num(1000), hold, hold), of(api.OLadder, one, hold)),
	} {
		p := loaded(t, all+"decide "+text+";")
		if !core.Same(p.Final, want) {
			t.Errorf("%s: %s, wanted %s", text, brief(p.Final), brief(want))
		}
		p = loaded(t, all+"guard true then "+text+"; decide hold;")
		if !core.Same(p.Guards[0].Then, want) {
			t.Errorf("%s: %s, wanted %s", text, brief(p.Guards[0].Then), brief(want))
		}
	}
}

// typeIs wants that the expression is a truth, if unit is "truth", else a number of the unit's dimension.
func typeIs(t *testing.T, text, unit string) {
	t.Helper()
	asTruth := all + "guard @" + text + " then hold; decide hold;"
	if unit == "truth" {
		loaded(t, strings.Replace(asTruth, "@", "", 1))
		_, _, errno := Load(all + "guard abs(" + text + ") = 1 then hold; decide hold;")
		if errno != api.ErrType {
			t.Errorf("%s: %d", text, errno)
		}
		return
	}
	if _, _, errno := Load(strings.Replace(asTruth, "@", "", 1)); errno != api.ErrType {
		t.Errorf("%s: %d, wanted a number", text, errno)
	}
	for _, u := range []string{"", "s", "s^2", "req", "req/s", "B", "rep", "core", "rep/s", "one/s"} {
		_, _, errno := Load(all + "guard 1[" + u + "] = (" + text + ") then hold; decide hold;")
		if want := map[bool]api.Errno{true: api.OK, false: api.ErrDim}[u == unit]; errno != want {
			t.Errorf("%s: held against 1[%s]: %d, wanted %d", text, u, errno, want)
		}
	}
}

func TestP16_1Types(t *testing.T) {
	for text, unit := range map[string]string{
		"1": "", "1[ms]": "s", "1[pct]": "", "1[kreq/min]": "req/s", "1[s/s]": "", "1[GiB]": "B", "1[mcore]": "core", "1[one/min]": "one/s",
		"n": "", "sec": "s", "avgs": "s", "yes": "truth", "replicas": "rep", "true": "truth", "false": "truth", `cron("* * * * *")`: "truth",
		"sum(m, 1s)": "", "avg(lat, 1s)": "s", "low(req, 1s)": "req/s", "high(cpu, 1s)": "", "rank(mem, 1s, 50)": "B", "sum(one, 1s)": "",
		"count(m, 1s)": "", "count(lat, 1s)": "", "count(mem, 1s)": "",
		"-sec": "s", "abs(replicas)": "rep", "ceil(1[req/s])": "req/s", "floor(sec)": "s", "not yes": "truth",
		"sec + 1[h]": "s", "1[h] - sec": "s", "min(sec, 1[d])": "s", "max(replicas, 1[rep])": "rep",
		"sec * sec": "s^2", "n * sec": "s", "sec * n": "s", "sec / sec": "", "1 / sec": "one/s", "replicas / sec": "rep/s", "replicas / n": "rep", "1[req] / sec": "req/s",
		"sec < sec": "truth", "sec <= sec": "truth", "n = 1": "truth", "n > 1": "truth", "replicas >= 1[rep]": "truth", "yes and yes": "truth", "yes or yes": "truth",
		"either(yes, false)": "truth", "either(sec, 1[ms])": "s", "if(yes, sec, 1[min])": "s", "if(yes, yes, false)": "truth", "if(yes, 1, n)": "",
		"1[s^8] / 1[s^7]": "s", "1[s^4] * 1[s^4] / 1[s^8]": "", "1 / 1[s^8] * 1[s^8]": "",
	} {
		typeIs(t, text, unit)
	}
}

func TestP16_1Windows(t *testing.T) {
	const head = "policy p; replicas 0..1; metric a; metric b [ms]; metric c [kreq/min]; metric d [one]; metric e [MB/MB*s]; metric f [pct]; metric g [min]; metric h []; "
	metrics := []string{"a", "b", "c", "d", "e", "f", "g", "h"}
	factors := []api.Unit{{Num: 1, Den: 1}, {Num: 1, Den: 1000}, {Num: 50, Den: 3}, {Num: 1, Den: 1}, {Num: 1, Den: 1}, {Num: 1, Den: 100}, {Num: 60, Den: 1}, {Num: 1, Den: 1}}
	for i, word := range []string{"sum", "avg", "low", "high", "count", "rank"} {
		for number, name := range metrics {
			w := api.Win{Metric: number, Agg: i + 1, Span: 90}
			call := word + "(" + name + ", 1m30s)"
			if word == "rank" {
				call, w.Rank = "rank("+name+", 1m30s, 99.9)", 99900000
			}
			part := func(n int64) api.Core {
				if f := factors[number]; f.Num != f.Den && word != "count" {
					return scaled(f.Num, f.Den, win(n))
				}
				return win(n)
			}
			loads(t, head+"guard "+call+" < "+call+" then hold; decide hold;", api.Plan{
				Metrics: metrics, Rules: api.Rules{Max: 1, Step: 1}, Wins: []api.Win{w, w},
				Guards: []api.Guard{{When: of(api.OLess, part(0), part(1)), Then: hold}}, Final: hold,
			})
		}
	}
	for text, want := range map[string]api.Win{
		"rank(a, 1s, 0.000001)":  {Agg: api.ARank, Span: 1, Rank: 1},
		"rank(a, 7d, 100)":       {Agg: api.ARank, Span: api.MaxSpan, Rank: 100000000},
		"rank(b, 1s, 50)":        {Metric: 1, Agg: api.ARank, Span: 1, Rank: 50000000},
		"rank(a, 1s, 99.999999)": {Agg: api.ARank, Span: 1, Rank: 99999999},
	} {
		if p := loaded(t, head+"guard "+text+" = "+text+" then hold; decide hold;"); p.Wins[0] != want || p.Wins[1] != want {
			t.Errorf("%s: %v", text, p.Wins)
		}
	}
}

// What is asked for at several places is numbered at each, and a let only where its name stands.
func TestP16_1Numbers(t *testing.T) {
	nine, _, _ := cron.Read("0 9 * * *")
	ten, _, _ := cron.Read("0 10 * * *")
	text := `policy p; metric b; replicas 1..9; metric a [ms]; let day = cron("0 9 * * *"); let unused = sum(a, 9s) + low(a, 9s); let w = avg(b, 5s); ` +
		`guard if(day, w, sum(b, 1s)) > w and cron("0 10 * * *") or day then to high(b, 7s) * 1[rep]; let v = w + count(a, 6s); ` +
		`guard not day then ladder v { 1: by w * 1[rep], 2: hold, else: to v * 1[rep] }; decide by if(cron("0 10 * * *"), low(a, 2s) / 1[s], v) * 1[rep];`
	avg, count := api.Win{Agg: api.AAvg, Span: 5}, api.Win{Metric: 1, Agg: api.ACount, Span: 6}
	one := num(1000000)
	v := func(n int64) api.Core { return of(api.OAdd, win(n), win(n+1)) }
	loads(t, text, api.Plan{
		Metrics: []string{"b", "a"}, Rules: api.Rules{Min: 1, Max: 9, Step: 9},
		Wins: []api.Win{avg, {Agg: api.ASum, Span: 1}, avg, {Agg: api.AHigh, Span: 7},
			avg, count, avg, avg, count,
			{Metric: 1, Agg: api.ALow, Span: 2}, avg, count},
		Crons: []api.Cron{nine, ten, nine, nine, ten},
		Guards: []api.Guard{
			{When: of(api.OOr, of(api.OAnd, of(api.OMore, of(api.OIf, sched(0), win(0), win(1)), win(2)), sched(1)), sched(2)), Then: of(api.OTo, of(api.OMul, win(3), one))},
			{When: of(api.ONot, sched(3)), Then: of(api.OLadder, v(4), one, of(api.OBy, of(api.OMul, win(6), one)), num(2000000), hold, of(api.OTo, of(api.OMul, v(7), one)))},
		},
		Final: of(api.OBy, of(api.OMul, of(api.OIf, sched(4), of(api.ODiv, scaled(1, 1000, win(9)), one), v(10)), one)),
	})
}

func TestP16_1Rules(t *testing.T) {
	for text, want := range map[string]api.Rules{
		"replicas 0..1;":                                             {Max: 1, Step: 1},
		"replicas 1..1;":                                             {Min: 1, Max: 1, Step: 1},
		"replicas 2..40 step 4;":                                     {Min: 2, Max: 40, Step: 4},
		"replicas 2..40;":                                            {Min: 2, Max: 40, Step: 40},
		"replicas 2..40 step 0;":                                     {Min: 2, Max: 40, Step: 40},
		"replicas 2.0..40.000 step 1.0;":                             {Min: 2, Max: 40, Step: 1},
		"replicas 0..1000000;":                                       {Max: 1000000, Step: 1000000},
		"replicas 1000000..1000000 step 1;":                          {Min: 1000000, Max: 1000000, Step: 1},
		"replicas 0..1 step 1000000;":                                {Max: 1, Step: 1000000},
		"replicas 1..9; cooldown up 7d;":                             {Min: 1, Max: 9, Step: 9, Up: api.MaxSpan},
		"cooldown down 1s; replicas 1..9;":                           {Min: 1, Max: 9, Step: 9, Down: 1},
		"cooldown down 1m; replicas 1..9 step 3; cooldown up 1h1s;":  {Min: 1, Max: 9, Step: 3, Up: 3601, Down: 60},
		"cooldown up 2s; metric a; cooldown down 2s; replicas 3..9;": {Min: 3, Max: 9, Step: 9, Up: 2, Down: 2},
	} {
		p, _, errno := Load("policy p; " + text + " decide hold;")
		if errno != api.OK || p.Rules != want || !core.Right(p.Rules) || p.Locals != 0 {
			t.Error(text, p, errno)
		}
	}
}

func TestP16_1Metrics(t *testing.T) {
	p := loaded(t, "policy m; metric z; metric é [s]; let a = 1; metric b; replicas 1..2; metric m; metric p [GiB]; decide hold;")
	if !reflect.DeepEqual(p.Metrics, []string{"z", "é", "b", "m", "p"}) || len(p.Wins) != 0 || len(p.Crons) != 0 || len(p.Guards) != 0 {
		t.Error(p)
	}
	if p = loaded(t, "policy p; replicas 1..2; decide hold;"); len(p.Metrics) != 0 {
		t.Error(p)
	}
}
