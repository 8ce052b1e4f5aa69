package verify

import (
	"fmt"
	"math"
	"slices"
	"strconv"
	"strings"
	"testing"

	"capstan/api"
)

const (
	most  = math.MaxInt64
	least = math.MinInt64
)

var daily = api.Cron{Minute: 1, Hour: 1, Day: 1<<32 - 2, Month: 1<<13 - 2, Week: 1<<7 - 1}

// names answers the instructions' names, each in the place of its number.
func names() []string {
	return strings.Fields("none INum IRep IWin ICron IFail INeg INot IAbs ICeil IFloor IScale IAdd ISub IMul IDiv ILess ILeq IEq IMore IMeq IMin2 IMax2 IJump IZero ITry IDone IHave ISet IHold ITo IBy ICopy IDrop")
}

// instructions answers the code that is written as the chapter writes it, with a comma or a semicolon between; of an IHave the
// local and the target stand with a colon between. "INeg*5" is that five times.
func instructions(text string) []api.Instr {
	var code []api.Instr
	for _, part := range strings.FieldsFunc(text, func(r rune) bool { return r == ',' || r == ';' }) {
		part, times, many := strings.Cut(strings.TrimSpace(part), "*")
		name, a, _ := strings.Cut(part, " ")
		i := api.Instr{Op: slices.Index(names(), name)}
		if i.Op < 1 {
			panic(part)
		}
		if l, target, two := strings.Cut(a, ":"); two {
			i.A = 16384*number(l) + number(target)
		} else if a != "" {
			i.A = number(a)
		}
		count := int64(1)
		if many {
			count = number(times)
		}
		code = append(code, slices.Repeat([]api.Instr{i}, int(count))...)
	}
	return code
}

func number(text string) int64 {
	n, err := strconv.ParseInt(text, 10, 64)
	if err != nil {
		panic(err)
	}
	return n
}

// bare answers a program of the code alone.
func bare(height int, code string) api.Program {
	return api.Program{Rules: api.Rules{Max: 1, Step: 1}, Height: height, Code: instructions(code)}
}

// full answers a program of the code with two metrics, four constants, three windows, three schedules, three locals.
func full(height int, code string) api.Program {
	p := bare(height, code)
	p.Metrics, p.Locals, p.Consts = 2, 3, []int64{5, 0, 1, -1}
	p.Wins = []api.Win{{Agg: api.ASum, Span: 1}, {Metric: 1, Agg: api.ARank, Span: 604800, Rank: 100000000}, {Agg: api.ACount, Span: 60}}
	p.Crons = []api.Cron{daily, {Minute: 3, Hour: 2, Day: 2, Month: 2, Week: 1}, daily}
	return p
}

// brief answers what x is, without the rest of a large one.
func brief(x any) string {
	text := fmt.Sprint(x)
	return text[:min(len(text), 1000)]
}

// answers wants what the chapter says of p, read once more; it answers whether p is accepted, and where.
func answers(t *testing.T, p api.Program) (int, bool) {
	t.Helper()
	heights, want, fine := plainCheck(p)
	at, errno := Check(p)
	if at != want || errno == api.OK != fine || errno != api.OK && errno != api.ErrVerify {
		t.Errorf("Check(%s) = %d, %d, wanted %d, %t", brief(p), at, errno, want, fine)
	}
	if got, e := Heights(p); !slices.Equal(got, heights) || e != errno {
		t.Errorf("Heights(%s) = %s, %d, wanted %s", brief(p), brief(got), e, brief(heights))
	}
	return at, errno == api.OK
}

// accepts wants that p is accepted.
func accepts(t *testing.T, p api.Program) {
	t.Helper()
	if at, fine := answers(t, p); at != 0 || !fine {
		t.Errorf("Check(%s) = %d, %t", brief(p), at, fine)
	}
}

// refuses wants that p is refused at that instruction.
func refuses(t *testing.T, p api.Program, want int) {
	t.Helper()
	if at, fine := answers(t, p); at != want || fine {
		t.Errorf("Check(%s) = %d, %t, wanted %d", brief(p), at, fine, want)
	}
}

// high wants that p is accepted, and has those heights.
func high(t *testing.T, p api.Program, heights ...int) {
	t.Helper()
	accepts(t, p)
	if got, errno := Heights(p); !slices.Equal(got, heights) || errno != api.OK {
		t.Errorf("Heights(%s) = %s, %d, wanted %s", brief(p), brief(got), errno, brief(heights))
	}
}

func TestP23_1Examples(t *testing.T) {
	high(t, bare(1, "IRep, ITo"), 0, 1)
	refuses(t, bare(0, "IRep, ITo"), 0)
	refuses(t, bare(1, "ITo"), 0)
	refuses(t, bare(1, "IHold, IHold"), 1)
	refuses(t, bare(1, "INum 0, IHold"), 0)
	accepts(t, bare(1, "IRep, IZero 2, IHold"))
	refuses(t, bare(1, "IRep, IZero 1, IHold"), 1)
	accepts(t, bare(1, "IRep, IZero 4, IRep, IDrop, IHold"))
	refuses(t, bare(1, "IRep, IZero 3, IRep, ITo"), 2)
	refuses(t, bare(1, "ITry 2, IHold, IHold"), 1)
	refuses(t, bare(1, ""), 0)
}

// As soon as one has a fault, what stands behind it doesn't matter.
func TestP23_1TheFirstFault(t *testing.T) {
	refuses(t, bare(2, "IRep, IRep, ITo, IHold, IHold, ITo"), 2)
	refuses(t, bare(2, "IRep, IRep, IDrop, ITo, IHold, ITo"), 4)
	refuses(t, bare(2, "IRep, IRep, IAdd, IDrop, IDrop, IDrop, ITo"), 4)
	refuses(t, bare(2, "INeg, IRep, IAdd, IHold"), 0)
	refuses(t, bare(2, "IRep, IDone 2, INum 9"), 1)
	refuses(t, bare(2, "IRep, INum 9, INum 10"), 1)
	// A head that isn't right is asked for ahead of all instructions, and tells 0.
	p := bare(2, "IRep, IRep, IRep, ITo")
	refuses(t, p, 2)
	p.Locals = 257
	refuses(t, p, 0)
}

func TestP23_1NothingLeadsThere(t *testing.T) {
	refuses(t, bare(1, "IHold, IHold"), 1)
	refuses(t, bare(1, "IRep, ITo, IHold"), 2)
	refuses(t, bare(1, "IRep, IBy, IHold"), 2)
	refuses(t, bare(1, "IJump 2, IHold, IHold"), 1)
	refuses(t, bare(1, "ITry 3, IDone 3, IHold, IHold"), 2)
	accepts(t, bare(1, "IHold"))
	accepts(t, bare(1, "IJump 1, IHold"))
	accepts(t, bare(1, "ITry 2, IDone 2, IHold"))
	accepts(t, bare(1, "IRep, IZero 3, IJump 4, IJump 4, IHold"))
	// An IFail goes nowhere, but what stands behind it is looked at.
	high(t, bare(1, "IFail 1, ITo"), 0, 1)
	refuses(t, bare(1, "IFail 1, IHold"), 1)
	refuses(t, bare(1, "IFail 1"), 0)
}

func TestP23_1BeyondTheCode(t *testing.T) {
	for _, code := range []string{"IRep", "INum 0", "IWin 0", "ICron 0", "IFail 1", "ITry 1", "IJump 1", "IHave 0:1"} {
		refuses(t, full(1, code), 0)
	}
	for _, code := range []string{"INeg", "INot", "IAbs", "ICeil", "IFloor", "IScale 1", "ISet 0", "ICopy", "IDrop", "IZero 2"} {
		refuses(t, full(9, "IRep, "+code), 1)
	}
	for _, name := range names()[api.IAdd : api.IMax2+1] {
		refuses(t, full(9, "IRep, IRep, "+name), 2)
	}
	refuses(t, full(1, "ITry 1, IDone 2"), 0)
	refuses(t, full(1, "ITry 2, IDone 3, IHold"), 1)
	refuses(t, full(1, "IRep, IZero 2"), 1)
	refuses(t, full(1, "ITry 2, IDone 2"), 0)
	refuses(t, full(1, "IRep, IZero 3, IHold"), 1)
}

// Where two ways come together they come with the same numbers and the same tries.
func TestP23_1AnotherState(t *testing.T) {
	// The one that stands behind the others that lead there has the fault.
	refuses(t, bare(2, "IRep, IRep, IZero 4, IDrop, IRep, ITo"), 3)
	high(t, bare(2, "IRep, IRep, IZero 4, IJump 4, ITo"), 0, 1, 2, 1, 1)
	high(t, bare(2, "IRep, IRep, IZero 4, INeg, ITo"), 0, 1, 2, 1, 1)
	refuses(t, bare(2, "IRep, IZero 4, IRep, IJump 4, IHold"), 3)
	high(t, bare(2, "IRep, IZero 4, IRep, IDrop, IRep, ITo"), 0, 1, 0, 1, 0, 1)
	refuses(t, bare(2, "IRep, IZero 5, IRep, IZero 6, IRep, IHold, IHold"), 4)
	refuses(t, bare(2, "IRep, IRep, IZero 5, IZero 5, IHold, ITo"), 3)
	// Tries count as well.
	refuses(t, bare(2, "ITry 2, IRep, IHold"), 1)
	refuses(t, bare(2, "ITry 3, ITry 3, IDone 3, IHold"), 1)
	refuses(t, bare(2, "ITry 4, IRep, IZero 4, IDone 4, IHold"), 2)
	high(t, bare(2, "ITry 5, IRep, IZero 4, IJump 4, IDone 5, IHold"), 0, 0, 1, 0, 0, 0)
	refuses(t, bare(2, "ITry 3, ITry 4, IDone 3, IHold, IDone 5"), 2)
	// A local that is set puts one there, as what stands between must.
	high(t, full(1, "IHave 0:3, IRep, ISet 0, ITo"), 0, 0, 1, 1)
	refuses(t, full(1, "IHave 0:3, IRep, IDrop, IHold"), 2)
	refuses(t, full(2, "IHave 0:4, IRep, IRep, ISet 0, ITo"), 3)
}

// One that leads to one place with two states: the machine may come there with either.
func TestP23_1ItsOwnTwoStates(t *testing.T) {
	refuses(t, bare(2, "ITry 1, IHold"), 0)
	refuses(t, bare(2, "ITry 1, IDone 2, IHold"), 0)
	refuses(t, full(2, "IHave 0:1, IHold"), 0)
	refuses(t, full(2, "IHave 0:1, IRep, ITo"), 0)
	refuses(t, full(2, "IRep, IHave 0:2, ITo"), 1)
	// An IZero's two are the same.
	high(t, full(2, "IRep, IZero 2, IHold"), 0, 1, 0)
}
