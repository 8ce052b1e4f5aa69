package check

import (
	"slices"
	"strings"
	"testing"

	"capstan/api"
)

// inTerms wants the fault of an expression, marked in it, in each place where one may stand: of a
// let, of a guard, of actions.
func inTerms(t *testing.T, text string, errno api.Errno) {
	t.Helper()
	for _, place := range []string{
		"let x = %; decide hold;", "let x = abs(%); decide hold;", "let x = either(1, %); decide hold;", "let x = if(%, 1, true); decide hold;",
		"guard % then hold; decide hold;", "guard true then to %; decide hold;", "guard true then by %; decide hold;", "guard 1 then to %; decide hold;",
		"decide to %;", "decide by %;", "decide ladder % { 1: hold, 1: hold, else: hold };", "decide ladder 1 { 1: to %, 1: hold, else: hold };",
		"decide ladder 1 { else: ladder 2 { else: by % } };",
	} {
		faulty(t, all+strings.Replace(place, "%", text, 1), errno)
	}
}

func TestP16_1FaultsOfNumbers(t *testing.T) {
	for _, text := range []string{"@1[sec]", "@1[ ]", "@1[s ]", "@1[s*]", "@1[s^0]", "@1[é]", "@1[1]", "1 + @1[S]",
		"@1[" + strings.Repeat("é", 33) + "]", "@1[s" + strings.Repeat("/s*s", 15) + "*é]", "@1[" + strings.Repeat("日", 64) + "]"} {
		inTerms(t, text, api.ErrUnit)
	}
	// Sixty-four runes of the bracket, more bytes than a unit's text may have.
	inTerms(t, "@1["+strings.Repeat("s", 63)+"é]", api.ErrUnit)
	for _, text := range []string{"@1[s^9]", "@1[GiB^2]", "@1[GiB^3]", "@1[one/GiB^2]", "@1[s^5*s^4]", "abs(@1[s^9/s^9])", "@1[MB^2*MB/MB]"} {
		inTerms(t, text, api.ErrBig)
	}
	// Of a text with two faults dim tells the first.
	inTerms(t, "@1[s^9*sec]", api.ErrBig)
	inTerms(t, "@1[sec*s^9]", api.ErrUnit)
}

func TestP16_1FaultsOfNames(t *testing.T) {
	for _, text := range []string{"@x", "@y", "1 + @y", "@m", "@lat", "@p", "@N", "@avg1", "min(n, @y)", "@sum(y, 1s)", "@avg(n, 1s)", "@low(sec, 1s)", "@high(x, 1s)", "@count(M, 1s)", "@rank(y, 1s, 5)", "@rank(n, 1s, 101)", "@rank(p, 1s, 0)"} {
		inTerms(t, text, api.ErrName)
	}
	// A name stands for what is ahead of its item alone.
	faulty(t, "policy p; replicas 1..9; let a = @b; let b = 1; decide hold;", api.ErrName)
	faulty(t, "policy p; replicas 1..9; let a = @a; decide hold;", api.ErrName)
	faulty(t, "policy p; replicas 1..9; let a = @sum(m, 1s); metric m; decide hold;", api.ErrName)
	faulty(t, "policy p; replicas 1..9; guard @b then hold; let b = true; decide hold;", api.ErrName)
	faulty(t, "policy p; replicas 1..9; metric p; guard @p = 1 then hold; decide hold;", api.ErrName)
	loaded(t, "policy p; replicas 1..9; metric p; guard sum(p, 1s) = 1 then hold; decide hold;")
}

func TestP16_1FaultsOfSchedules(t *testing.T) {
	for _, text := range []string{"", "x", "* * * *", "* * * * 7", "* * * * * ", "60 * * * *", "é * * * *", strings.Repeat("日", 64), strings.Repeat("*,", 29) + "* * *"} {
		inTerms(t, `@cron("`+text+`")`, api.ErrCron)
		inTerms(t, `not @cron("`+text+`")`, api.ErrCron)
	}
	inTerms(t, `@cron("* * * *") and sec`, api.ErrCron)
}

func TestP16_1FaultsOfWindows(t *testing.T) {
	for _, text := range []string{"@rank(m, 1s, 0)", "@rank(m, 1s, 100.000001)", "@rank(lat, 7d, 101)", "@rank(m, 1s, 9223372036854.775807)", "not @rank(m, 1s, 0)"} {
		inTerms(t, text, api.ErrRange)
	}
}

func TestP16_1FaultsOfTypes(t *testing.T) {
	for _, text := range []string{
		"@-yes", "@abs(true)", "@ceil(false)", `@floor(cron("* * * * *"))`, "@abs(1 < 2)", "@-(yes or yes)",
		"@not 1", "@not sec", "@not avgs", "@not (1 + 1)",
		"yes @+ 1", "1 @+ yes", "yes @+ yes", "yes @- 1", "1 @- yes", "yes @* 1", "1 @* yes", "true @* true", "yes @/ 1", "1 @/ yes",
		"@min(yes, 1)", "@min(1, yes)", "@max(yes, yes)", "@max(1, false)",
		"yes @< 1", "1 @< yes", "true @= true", "true @= 1", "1 @= true", "yes @<= 1", "1 @> yes", "1 @>= yes", "(1 < 2) @< 3",
		"1 @and yes", "yes @and 1", "1 @or yes", "yes @or 1", "sec @or sec", "1 @and 1",
		"@either(1, yes)", "@either(yes, 1)", "@either(true, sec)",
		"@if(1, 2, 3)", "@if(sec, true, false)", "@if(yes, 1, true)", "@if(yes, true, 1)", "@if(yes, sec, false)",
	} {
		inTerms(t, text, api.ErrType)
	}
}

func TestP16_1FaultsOfDimensions(t *testing.T) {
	for _, text := range []string{
		"1 @+ sec", "sec @+ 1", "sec @- replicas", "1[s] @+ 1[req]", "1[s] @+ 1[s^2]", "avgs @+ 1", "sum(m, 1s) @+ avgs", "count(lat, 1s) @+ avg(lat, 1s)",
		"@min(1, sec)", "@max(replicas, sec)", "sec @< 1", "1 @<= sec", "1[B] @= 1[req]", "1[core] @> 1[rep]", "replicas @>= 1",
		"1[s^8] @* 1[s]", "1 / 1[s^8] @/ 1[s]", "1[s^8] @/ 1[one/s]", "1[one/s^8] @* 1[one/s]",
		"@either(1, sec)", "@either(replicas, 1)", "@if(yes, 1, sec)", "@if(yes, sec, replicas)",
	} {
		inTerms(t, text, api.ErrDim)
	}
	for _, unit := range []string{"s", "req", "B", "rep", "core"} {
		inTerms(t, "1["+unit+"^8] @* 1["+unit+"]", api.ErrDim)
		inTerms(t, "1[one/"+unit+"^8] @/ 1["+unit+"]", api.ErrDim)
		inTerms(t, "1["+unit+"] @+ 1", api.ErrDim)
	}
}

// Of several faults of one node the first is told.
func TestP16_1FaultsInOrder(t *testing.T) {
	for text, errno := range map[string]api.Errno{
		"@either(1, true)":        api.ErrType,
		"@if(1, true, 2)":         api.ErrType,
		"@if(1, 2, sec)":          api.ErrType,
		"@if(yes, 1, sec)":        api.ErrDim,
		"true @+ sec":             api.ErrType,
		"1[s^8] @* true":          api.ErrType,
		"@rank(zzz, 1s, 0)":       api.ErrName,
		"@y + sec + 1":            api.ErrName,
		"(1 @+ true) + y":         api.ErrType, // the parts from the left
		"(1 @+ sec) + (1 + true)": api.ErrDim,
		"(1 @+ true) + (1 + sec)": api.ErrType,
		"@1[sec] + y":             api.ErrUnit,
		"@y + 1[sec]":             api.ErrName,
		"not (1 @+ sec)":          api.ErrDim, // and ahead of the node
		"if(1, @y, true)":         api.ErrName,
		"if(1, 2, @1[GiB^3])":     api.ErrBig,
		"either(1, not @y)":       api.ErrName,
		"either(@not 1, y)":       api.ErrType,
	} {
		inTerms(t, text, errno)
	}
}

func TestP16_1FaultsOfActions(t *testing.T) {
	for text, errno := range map[string]api.Errno{
		"@to 2": api.ErrDim, "@by 2": api.ErrDim, "@to sec": api.ErrDim, "@by replicas * replicas": api.ErrDim, "@to 1 / 1[rep]": api.ErrDim, "@to count(m, 1s)": api.ErrDim,
		"@to true": api.ErrType, "@by yes": api.ErrType, "@by 1 < 2": api.ErrType, "to @not 1": api.ErrType, "to 1 @+ sec": api.ErrDim,
		"@ladder true { else: hold }":                                                                            api.ErrType,
		"@ladder yes { 1[sec]: to 1, 0: hold, else: hold }":                                                      api.ErrType, // ahead of all rungs
		"ladder @y { 1[sec]: to 1, else: hold }":                                                                 api.ErrName,
		"ladder 1 { @1[sec]: to 1, else: hold }":                                                                 api.ErrUnit,
		"ladder 1 { -@1[sec]: to 1, else: hold }":                                                                api.ErrUnit,
		"ladder 1 { @1[s^9]: hold, else: hold }":                                                                 api.ErrBig,
		"ladder 1 { - @1[GiB^2]: hold, else: hold }":                                                             api.ErrBig,
		"ladder 1 { @1[" + strings.Repeat("é", 40) + "]: hold, else: hold }":                                     api.ErrUnit,
		"ladder 1 { @1[s]: hold, else: hold }":                                                                   api.ErrDim,
		"ladder 1 { @- 1[s]: hold, else: hold }":                                                                 api.ErrDim,
		"ladder sec { @1: hold, else: hold }":                                                                    api.ErrDim,
		"ladder sec { 1[s]: hold, @2[req]: hold, else: hold }":                                                   api.ErrDim,
		"ladder sec { 2[s]: hold, @1[req]: hold, else: hold }":                                                   api.ErrDim, // ahead of ErrLadder
		"ladder sec { 2[s]: hold, -@1[secs]: hold, else: hold }":                                                 api.ErrUnit,
		"ladder 1 { 1: hold, @1: hold, else: hold }":                                                             api.ErrLadder,
		"ladder 1 { 2: hold, @1: hold, else: hold }":                                                             api.ErrLadder,
		"ladder 1 { 1: hold, @-1: hold, else: hold }":                                                            api.ErrLadder,
		"ladder 1 { -1: hold, @-1: hold, else: hold }":                                                           api.ErrLadder,
		"ladder 1 { -1: hold, @-2: hold, else: hold }":                                                           api.ErrLadder,
		"ladder 1 { 0: hold, @-0: hold, else: hold }":                                                            api.ErrLadder,
		"ladder 1 { -0: hold, @0: hold, else: hold }":                                                            api.ErrLadder,
		"ladder 1 { 1: hold, 2: hold, @1.5: hold, else: hold }":                                                  api.ErrLadder,
		"ladder sec { 1[s]: hold, @999[ms]: hold, else: hold }":                                                  api.ErrLadder,
		"ladder sec { 1[min]: hold, @60[s]: hold, else: hold }":                                                  api.ErrLadder,
		"ladder sec { 0.001[ms]: hold, @0.0019[ms]: hold, else: hold }":                                          api.ErrLadder, // both are a millionth
		"ladder 1[B] { 9223372036854[B]: hold, 9223372036854[kB]: hold, @9223372036854[GiB]: hold, else: hold }": api.ErrLadder, // both are held
		"ladder 1[B] { -9223372036854[kB]: hold, @-9223372036853[kB]: hold, else: hold }":                        api.ErrLadder,
		"ladder 1 { 2: @to 1, 1: hold, else: hold }":                                                             api.ErrDim, // a rung's action ahead of the next bound
		"ladder 1 { 2: hold, @1: to 1, else: hold }":                                                             api.ErrLadder,
		"ladder 1 { 2: hold, 3: hold, else: @to 1 }":                                                             api.ErrDim,
		"ladder 1 { 2: hold, @1: hold, else: to 1 }":                                                             api.ErrLadder,
		"ladder 1 { 2: ladder sec { @2: hold, else: hold }, else: hold }":                                        api.ErrDim,
		"ladder 1 { 2: ladder 1 { 1: hold, else: hold }, @1: hold, else: hold }":                                 api.ErrLadder,
		"ladder 1 { 2: @ladder true { else: hold }, else: to 1 }":                                                api.ErrType,
		"ladder 1 { else: ladder 1 { 1: hold, @1: hold, else: hold } }":                                          api.ErrLadder,
	} {
		faulty(t, all+"decide "+text+";", errno)
		faulty(t, all+"guard true then "+text+"; decide to 1;", errno)
		faulty(t, all+"guard 1 then "+text+"; decide hold;", errno)
	}
	// A ladder's bounds begin anew in each ladder.
	loaded(t, all+"decide ladder 1 { 5: ladder 1 { 1: hold, else: hold }, 6: ladder 1 { -7: hold, else: hold }, else: hold };")
	loaded(t, all+"decide ladder sec { 59.999999[s]: hold, 1[min]: hold, else: hold };")
}

func TestP16_1FaultsOfItems(t *testing.T) {
	const long = "éééééééééééééééééééééééééééééééééééé"
	for text, errno := range map[string]api.Errno{
		"metric a; @metric a;":                                         api.ErrTwice,
		"let a = 1; @metric a;":                                        api.ErrTwice,
		"metric a; @metric a [sec];":                                   api.ErrTwice,
		"metric a; metric b; @metric a [s];":                           api.ErrTwice,
		"@metric a [sec];":                                             api.ErrUnit,
		"@metric a [ ];":                                               api.ErrUnit,
		"@metric a [" + long + "];":                                    api.ErrUnit,
		"@metric a [s^9];":                                             api.ErrBig,
		"metric a; let b = 1; @metric b [s^9];":                        api.ErrTwice,
		"replicas 1..9; @replicas 1..9;":                               api.ErrTwice,
		"replicas 1..9; @replicas 2..1;":                               api.ErrTwice,
		"replicas 0..1; metric a; @replicas 0..1 step 1;":              api.ErrTwice,
		"@replicas 2..1;":                                              api.ErrRange,
		"@replicas 0..0;":                                              api.ErrRange,
		"@replicas 0.5..1;":                                            api.ErrRange,
		"@replicas 0..1.000001;":                                       api.ErrRange,
		"@replicas 0.999999..1;":                                       api.ErrRange,
		"@replicas 0..9 step 0.5;":                                     api.ErrRange,
		"@replicas 0..9 step 1.000001;":                                api.ErrRange,
		"@replicas 0..1000001;":                                        api.ErrRange,
		"@replicas 1000001..1000001;":                                  api.ErrRange,
		"@replicas 0..9 step 1000001;":                                 api.ErrRange,
		"@replicas 0..9223372036854;":                                  api.ErrRange,
		"@replicas 0..9 step 9223372036854;":                           api.ErrRange,
		"@replicas 9223372036854..9;":                                  api.ErrRange,
		"@replicas 0..0 step 0;":                                       api.ErrRange,
		"cooldown up 1s; @cooldown up 1s;":                             api.ErrTwice,
		"cooldown down 1s; @cooldown down 7d;":                         api.ErrTwice,
		"cooldown up 1s; cooldown down 1s; metric a; @cooldown up 2s;": api.ErrTwice,
		"let a = 1; @let a = 2;":                                       api.ErrTwice,
		"metric a; @let a = 1;":                                        api.ErrTwice,
		"let a = 1; @let a = a;":                                       api.ErrTwice,
		"let a = 1; let a = @b;":                                       api.ErrName, // the term ahead of the item
		"let a = 1; let a = 1 @+ true;":                                api.ErrType,
		"guard @1 then hold;":                                          api.ErrType,
		"guard 1 @+ 1 then hold;":                                      api.ErrType,
		"guard @abs(1) then hold;":                                     api.ErrType,
		"guard @-1 then hold;":                                         api.ErrType,
		"guard 1 then @to 1;":                                          api.ErrDim, // both terms ahead of the item
		"guard 1 then to @y;":                                          api.ErrName,
		"guard @y then to 1;":                                          api.ErrName,
	} {
		faulty(t, "policy p; "+text+" replicas 1..9; decide hold;", errno)
		faulty(t, "policy p; "+text+" decide to true;", errno)
	}
	// A guard's Term in brackets has its own place, not that of the bracket.
	faulty(t, "policy p; replicas 1..9; guard (@1) then hold; decide hold;", api.ErrType)
	faulty(t, "policy p; replicas 1..9; let a = 1; guard @a then hold; decide hold;", api.ErrType)
	loaded(t, "policy p; replicas 1..9; metric a; let b = 1; metric c; let d = b; decide hold;")
}

func TestP16_1FaultsOfTheEnd(t *testing.T) {
	faulty(t, "policy p; @decide hold;", api.ErrMissing)
	faulty(t, "policy p; metric replicas1; cooldown up 1s; @decide hold;", api.ErrMissing)
	faulty(t, "policy p; decide @to 1;", api.ErrDim)
	faulty(t, "policy p; decide to @y;", api.ErrName)
	loaded(t, "policy p; metric a; cooldown up 1s; replicas 1..9; decide hold;")
	loaded(t, "policy p; guard true then hold; replicas 1..9; decide hold;")
}

// The first fault in the order of the text's items is told, whatever stands behind it.
func TestP16_1TheFirstFault(t *testing.T) {
	faults := []struct {
		text  string
		errno api.Errno
	}{
		{"@metric a [sec]", api.ErrUnit}, {"@metric n", api.ErrTwice}, {"@metric a [s^9]", api.ErrBig}, {"@replicas 1..9", api.ErrTwice}, {"let a = @y", api.ErrName},
		{"@let n = 1", api.ErrTwice}, {"let a = @not 1", api.ErrType}, {"let a = 1 @+ sec", api.ErrDim}, {`let a = @cron("")`, api.ErrCron}, {"let a = @rank(m, 1s, 0)", api.ErrRange},
		{"guard @1 then hold", api.ErrType}, {"guard true then @to 1", api.ErrDim}, {"guard yes then ladder 1 { 1: hold, @1: hold, else: hold }", api.ErrLadder},
	}
	for _, first := range faults {
		for _, second := range faults {
			text := first.text + "; " + strings.Replace(second.text, "@", "", 1) + "; "
			faulty(t, all+text+"decide hold;", first.errno)
			faulty(t, all+"metric other; let good = 1; "+text+"decide to 1;", first.errno)
		}
	}
	order := make([]string, 0, len(faults))
	for _, f := range faults {
		order = append(order, strings.Replace(f.text, "@", "", 1))
	}
	slices.Reverse(order)
	failsAt(t, all+strings.Join(order, "; ")+"; decide hold;", len(all)+strings.LastIndex(order[0], "1:"), api.ErrLadder)
}
