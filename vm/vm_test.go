package vm

import (
	"fmt"
	"math"
	"slices"
	"strconv"
	"strings"
	"testing"

	"capstan/api"
)

const (
	most  = math.MaxInt64
	least = math.MinInt64
)

var daily = api.Cron{Minute: 1, Hour: 1, Day: 1<<32 - 2, Month: 1<<13 - 2, Week: 1<<7 - 1}

// names answers the instructions' names, each in the place of its number.
func names() []string {
	return strings.Fields("none INum IRep IWin ICron IFail INeg INot IAbs ICeil IFloor IScale IAdd ISub IMul IDiv ILess ILeq IEq IMore IMeq IMin2 IMax2 IJump IZero ITry IDone IHave ISet IHold ITo IBy ICopy IDrop")
}

// instructions answers the code that is written as the chapter writes it, with a comma or a semicolon between; of an IHave the
// local and the target stand with a colon between. "INeg*5" is that five times.
func instructions(text string) []api.Instr {
	var code []api.Instr
	for _, part := range strings.FieldsFunc(text, func(r rune) bool { return r == ',' || r == ';' }) {
		part, times, many := strings.Cut(strings.TrimSpace(part), "*")
		name, a, _ := strings.Cut(part, " ")
		i := api.Instr{Op: slices.Index(names(), name)}
		if i.Op < 1 {
			panic(part)
		}
		if l, target, two := strings.Cut(a, ":"); two {
			i.A = 16384*number(l) + number(target)
		} else if a != "" {
			i.A = number(a)
		}
		count := int64(1)
		if many {
			count = number(times)
		}
		code = append(code, slices.Repeat([]api.Instr{i}, int(count))...)
	}
	return code
}

func number(text string) int64 {
	n, err := strconv.ParseInt(text, 10, 64)
	if err != nil {
		panic(err)
	}
	return n
}

// bare answers a program of the code and the constants alone.
func bare(code string, consts ...int64) api.Program {
	return api.Program{Rules: api.Rules{Max: 1, Step: 1}, Height: 4096, Consts: consts, Code: instructions(code)}
}

// full answers a program of the code with two metrics, five constants, three windows, three schedules, three locals. The
// constant number n is n and a half.
func full(code string) api.Program {
	p := bare(code, 500000, 1500000, 2500000, 3500000, 4500000)
	p.Metrics, p.Locals = 2, 3
	p.Wins = []api.Win{{Agg: api.ASum, Span: 1}, {Metric: 1, Agg: api.ARank, Span: 604800, Rank: 100000000}, {Agg: api.ACount, Span: 60}}
	p.Crons = []api.Cron{daily, {Minute: 3, Hour: 2, Day: 2, Month: 2, Week: 1}, daily}
	return p
}

// env answers one of a full program: 6 replicas, the windows 70, none (NoData) and 90, the schedules false, true and false.
func env() api.Env {
	return api.Env{Rep: 6, Wins: []api.Result{{N: 70000000}, {Reason: api.NoData}, {N: 90000000}}, Crons: []bool{false, true, false}}
}

// brief answers what x is, without the rest of a large one.
func brief(x any) string {
	text := fmt.Sprint(x)
	return text[:min(len(text), 1000)]
}

func wants(n int64) api.Raw {
	return api.Raw{Want: n}
}

func holds(reason api.Reason) api.Raw {
	return api.Raw{Hold: true, Reason: reason}
}

// runs wants that p's run in v ends so, after so many steps.
func runs(t *testing.T, p api.Program, v api.Env, want api.Raw, steps int) {
	t.Helper()
	raw, count, errno := Run(p, v)
	if raw != want || count != steps || errno != api.OK {
		t.Errorf("Run(%s, %s) = %v, %d, %d, wanted %v, %d", brief(p), brief(v), raw, count, errno, want, steps)
	}
	if got, done := plainRun(t, p, v); got != raw || done != count {
		t.Errorf("Run(%s, %s) = %v, %d, by the plain reading %v, %d", brief(p), brief(v), raw, count, got, done)
	}
}

// refuses wants that error of Run.
func refuses(t *testing.T, p api.Program, v api.Env, why api.Errno) {
	t.Helper()
	if raw, count, errno := Run(p, v); raw != (api.Raw{}) || count != 0 || errno != why {
		t.Errorf("Run(%s, %s) = %v, %d, %d, wanted %d", brief(p), brief(v), raw, count, errno, why)
	}
}

func TestP24_1Examples(t *testing.T) {
	runs(t, bare("IRep, ITo"), api.Env{Rep: 3}, wants(3), 2)
	p := bare("ITry 3, IWin 0, IDone 4, INum 0, ITo", 7000000)
	p.Metrics, p.Wins = 1, []api.Win{{Agg: api.ASum, Span: 1}}
	runs(t, p, api.Env{Wins: []api.Result{{N: 2000000}}}, wants(2), 4)
	runs(t, p, api.Env{Wins: []api.Result{{Reason: api.NoData}}}, wants(7), 4)
	runs(t, bare("IFail 2, ITo"), api.Env{}, holds(api.DivZero), 1)
	runs(t, bare("IHold"), api.Env{}, holds(api.Asked), 1)
}

func TestP24_1Verify(t *testing.T) {
	for _, p := range []api.Program{
		{}, {Code: instructions("IHold")}, bare(""), bare("ITo"), bare("IRep, IHold"), bare("IRep"), bare("INum 1, ITo", 5),
		bare("IRep, IZero 3, IRep, ITo"), bare("ITry 1, IHold"), bare("IHold, IHold"), full("IWin 3, ITo"), full("ICron -1, ITo"),
	} {
		refuses(t, p, api.Env{Wins: make([]api.Result, len(p.Wins)), Crons: make([]bool, len(p.Crons))}, api.ErrVerify)
		// Whatever the Env is: the program is asked for first.
		refuses(t, p, api.Env{Wins: make([]api.Result, len(p.Wins)+1)}, api.ErrVerify)
	}
	p := bare("IRep, ITo")
	p.Height = 0
	refuses(t, p, api.Env{}, api.ErrVerify)
	p.Height = 1
	runs(t, p, api.Env{Rep: 9}, wants(9), 2)
	p.Code = append(p.Code, api.Instr{Op: 34})
	refuses(t, p, api.Env{}, api.ErrVerify)
}

func TestP24_1Form(t *testing.T) {
	for wins := range 6 {
		for crons := range 6 {
			v := api.Env{Rep: 6, Wins: make([]api.Result, wins), Crons: make([]bool, crons)}
			for _, p := range []api.Program{full("IHold"), bare("IHold")} {
				if wins == len(p.Wins) && crons == len(p.Crons) {
					runs(t, p, v, holds(api.Asked), 1)
				} else {
					refuses(t, p, v, api.ErrForm)
				}
			}
		}
	}
	runs(t, bare("IHold"), api.Env{Wins: []api.Result{}, Crons: []bool{}}, holds(api.Asked), 1)
}
