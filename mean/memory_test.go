package mean

import (
	"go/parser"
	"go/token"
	"path/filepath"
	"reflect"
	"slices"
	"strconv"
	"strings"
	"testing"
	"unsafe"

	"capstan/api"
	"capstan/core"
)

// rich is a plan of all kinds of parts.
const rich = `policy rich; replicas 1..9; metric a; metric b [rep];
	guard cron("* 3 * * *") or count(a, 1m) > 2 then to low(b, 10s);
	guard cron("* * 1 1 *") then ladder sum(a, 10s) { 5: hold, 7: by 1[rep], else: to rank(b, 1m, 90) };
	decide by if(cron("0 0 1 1 *"), 1[rep], avg(b, 1h));`

func history() []api.Event {
	return []api.Event{sample(0, 5*api.One, 0), tick(4), sample(1, 6, 3), sample(1, 8*api.One, 5), sample(2, 9, 5), sample(0, api.One, 6)}
}

func TestP17_1NothingIsShared(t *testing.T) {
	p, l := summing(), []api.Event{tick(1), sample(0, 2, 2), tick(3)}
	a, b := Taken(p, l), Taken(p, l)
	if &a[0] == &l[0] || &a[0] == &b[0] {
		t.Error("the list is shared")
	}
	for _, list := range [][]api.Event{a[:cap(a)], b[:cap(b)]} {
		for i := range list {
			list[i] = api.Event{Kind: 9}
		}
	}
	if !slices.Equal(l, []api.Event{tick(1), sample(0, 2, 2), tick(3)}) {
		t.Error(l)
	}
	takes(t, 1, l, 0, 1, 2)
}

func TestP17_2NothingIsShared(t *testing.T) {
	p, l := loaded(t, rich), history()
	a, _ := Env(p, l, 7, 3)
	b, _ := Env(p, l, 7, 3)
	if unsafe.SliceData(a.Wins) == unsafe.SliceData(b.Wins) || unsafe.SliceData(a.Crons) == unsafe.SliceData(b.Crons) {
		t.Error("a list is shared")
	}
	clear(a.Wins[:cap(a.Wins)])
	clear(a.Crons[:cap(a.Crons)])
	want, _ := plainEnv(p, l, 7, 3)
	if !sameEnv(b, want) || sameEnv(a, want) {
		t.Error(a, b)
	}
	sees(t, p, l, 7, 3, want)
}

// roomy answers the list with room behind it in which something stands.
func roomy[T any](list []T, stands T) []T {
	made := append(slices.Clone(list), stands, stands, stands)
	return slices.Clip(made)[:len(list)]
}

func TestWhatIsHandedInStaysAsItWas(t *testing.T) {
	p := loaded(t, rich)
	p.Metrics, p.Wins, p.Crons = roomy(p.Metrics, "room"), roomy(p.Wins, api.Win{Span: 9}), roomy(p.Crons, api.Cron{Day: 9})
	l := roomy(history(), api.Event{Kind: api.ETick, Time: 99})
	before, events := core.Copy(p), slices.Clone(l[:cap(l)])
	names, wins, crons := slices.Clone(p.Metrics[:cap(p.Metrics)]), slices.Clone(p.Wins[:cap(p.Wins)]), slices.Clone(p.Crons[:cap(p.Crons)])
	for _, at := range []int64{-5, 5, 6, 60, 3 * 3600} {
		for n := range len(l) + 1 {
			Taken(p, l[:n])
			Env(p, l[:n], at, 3)
			Decide(p, l[:n], at, 3)
		}
	}
	if !reflect.DeepEqual(p, before) || !slices.Equal(l[:cap(l)], events) {
		t.Error(p, l)
	}
	if !slices.Equal(p.Metrics[:cap(p.Metrics)], names) || !slices.Equal(p.Wins[:cap(p.Wins)], wins) || !slices.Equal(p.Crons[:cap(p.Crons)], crons) {
		t.Error(p)
	}
}

// No call hangs on one that came ahead of it: neither a clock nor a window goes on.
func TestKeepsNothing(t *testing.T) {
	p, l := summing(), example()
	for range 3 {
		fails(t, p, ticks(most), 9, api.ErrStale)
		tells(t, p, l, 1000, fine(0))
		tells(t, p, l, 9, fine(12))
		tells(t, p, nil, least, fine(0))
		takes(t, 1, l, 0, 1, 4)
		takes(t, 2, l, 0, 1, 3, 4)
		fails(t, api.Plan{}, l, 9, api.ErrForm)
	}
}

// One history is gone through anew each time, and no further than is asked.
func TestTakenIsGoneThroughAnew(t *testing.T) {
	l := example()
	list := taken(1, l)
	for range 3 {
		if got := slices.Collect(list); !slices.Equal(got, []api.Event{l[0], l[1], l[4]}) {
			t.Error(got)
		}
		for e := range list {
			if e != l[0] {
				t.Error(e)
			}
			break
		}
	}
}

func TestCallsOnlyTheLayersBelow(t *testing.T) {
	files, err := filepath.Glob("*.go")
	if err != nil || len(files) == 0 {
		t.Fatal(files, err)
	}
	for _, file := range files {
		if strings.HasSuffix(file, "_test.go") {
			continue
		}
		parsed, err := parser.ParseFile(token.NewFileSet(), file, nil, parser.ImportsOnly)
		if err != nil {
			t.Fatal(err)
		}
		for _, spec := range parsed.Imports {
			path, _ := strconv.Unquote(spec.Path.Value)
			if strings.HasPrefix(path, "capstan/") && !slices.Contains([]string{"capstan/api", "capstan/cron", "capstan/window", "capstan/core"}, path) {
				t.Errorf("%s imports %s", file, path)
			}
		}
	}
}
