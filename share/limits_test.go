package share

import (
	"testing"

	"capstan/api"
	"capstan/core"
)

// own answers a core of its own for each number.
func own(n int) api.Core {
	return plus(num(int64(n)), num(int64(n)))
}

// asksAll answers a plan with a guard for each of the cores, which asks it once.
func asksAll(cores ...api.Core) api.Plan {
	p := simple(hold)
	for _, c := range cores {
		p.Guards = append(p.Guards, guard(sched(0), to(c)))
	}
	return p
}

// owns answers the cores of the numbers from 0 on, twice over, and what becomes of them, with so many locals.
func owns(count, locals int) (list, want []api.Core) {
	for i := range 2 * count {
		c := own(i % count)
		list = append(list, c)
		if i%count < locals {
			c = memo(int64(i%count), c)
		}
		want = append(want, c)
	}
	return list, want
}

func TestP20_1AsManyLocalsAsThereMayBe(t *testing.T) {
	for _, count := range []int{1, 2, 255, 256, 257, 300} {
		list, want := owns(count, min(count, 256))
		becomes(t, asksAll(list...), with(min(count, 256), asksAll(want...)))
	}
}

// Behind the last number, those that were given one still get it, and the parts of the others are looked at.
func TestP20_1BehindTheLastLocal(t *testing.T) {
	first, kept := owns(256, 256)
	behind := func(from, want []api.Core) {
		t.Helper()
		becomes(t, asksAll(append(first[:len(first):len(first)], from...)...), with(256, asksAll(append(kept[:len(kept):len(kept)], want...)...)))
	}
	again, late, last := memo(3, own(3)), own(1000), memo(255, own(255))
	behind([]api.Core{own(3), own(255), own(0)}, []api.Core{again, last, memo(0, own(0))})
	behind([]api.Core{late, late, late}, []api.Core{late, late, late})
	behind([]api.Core{late, own(3), late, own(3)}, []api.Core{late, again, late, again})
	with3 := func(c api.Core) api.Core { return neg(of(api.OMax, c, late)) }
	behind([]api.Core{with3(own(3)), with3(own(3))}, []api.Core{with3(again), with3(again)})
	// Parts that have no number either are looked at too.
	deep := func(c api.Core) api.Core { return neg(neg(plus(late, plus(of(api.OAbs, c), c)))) }
	behind([]api.Core{deep(own(255)), deep(own(255)), deep(own(7))}, []api.Core{deep(last), deep(last), deep(memo(7, own(7)))})
	// Truths, in ladders.
	when := of(api.OLess, own(3), late)
	behind([]api.Core{of(api.OIf, when, late, own(255)), of(api.OIf, when, late, own(255))}, []api.Core{of(api.OIf, of(api.OLess, again, late), late, last), of(api.OIf, of(api.OLess, again, late), late, last)})
}

// With one number less there is one left: for the one that comes first, whatever it is.
func TestP20_1TheLastLocal(t *testing.T) {
	list, kept := owns(255, 255)
	inner, a, b := own(2000), neg(own(2000)), neg(neg(own(2000)))
	from := append(list, b, b, a, a, inner)
	// b is met first; then a and what is in it have no number.
	want := append(kept[:len(kept):len(kept)], memo(255, b), memo(255, b), a, a, inner)
	becomes(t, asksAll(from...), with(256, asksAll(want...)))
	// The inner one is met first, so the others stay, and it is put into OMemos within them.
	i := memo(255, inner)
	from = append(list[:len(list):len(list)], inner, a, a, b, b)
	want = append(kept[:len(kept):len(kept)], i, neg(i), neg(i), neg(neg(i)), neg(neg(i)))
	becomes(t, asksAll(from...), with(256, asksAll(want...)))
}

// chain answers the sum of so many of c: 3 * count nodes less one, if c has two.
func chain(count int, c api.Core) api.Core {
	sum := c
	for range count - 1 {
		sum = plus(sum, c)
	}
	return sum
}

func total(p api.Plan) int {
	sum := core.Nodes(p.Final)
	for _, g := range p.Guards {
		sum += core.Nodes(g.When) + core.Nodes(g.Then)
	}
	return sum
}

func TestP20_1AsManyNodesAsThereMayBe(t *testing.T) {
	x := neg(rep)
	for _, c := range []struct {
		p, want api.Plan
		nodes   int // of the shared plan
	}{
		{simple(to(chain(1024, x))), simple(to(chain(1024, memo(0, x)))), 4096},
		{simple(to(of(api.OAbs, chain(1024, x)))), api.Plan{}, 4097},
		{simple(to(chain(1025, x))), api.Plan{}, 4100},
		{simple(to(chain(1365, x))), api.Plan{}, 5460},
		{simple(to(chain(1023, x)), guard(sched(0), hold)), simple(to(chain(1023, memo(0, x))), guard(sched(0), hold)), 4094},
		{simple(to(chain(1023, x)), guard(of(api.OAnd, sched(0), of(api.ONot, sched(0))), hold)), api.Plan{}, 4097},
		{simple(to(chain(1023, x)), guard(of(api.ONot, sched(0)), to(rep))), simple(to(chain(1023, memo(0, x))), guard(of(api.ONot, sched(0)), to(rep))), 4096},
		{simple(to(chain(1023, x)), guard(of(api.ONot, sched(0)), to(x))), api.Plan{}, 4098},
	} {
		if !core.Formed(c.p) {
			t.Errorf("%s isn't formed", brief(c.p))
		}
		if c.nodes > 4096 {
			noPlan(t, c.p, api.ErrLarge)
			continue
		}
		if becomes(t, c.p, with(1, c.want)); total(c.want) != c.nodes {
			t.Error(total(c.want), c.nodes)
		}
	}
}

// As many nodes as there may be, none of them worth it: nothing is added.
func TestP20_1LargePlansThatStay(t *testing.T) {
	long := rep
	for range 4094 {
		long = neg(long)
	}
	stays(t, simple(to(long)))
	noPlan(t, simple(to(neg(long))), api.ErrForm)
	wide := ladder(rep)
	for i := range int64(1364) {
		wide.Parts = append(wide.Parts, num(i), to(rep))
	}
	wide.Parts = append(wide.Parts, to(rep))
	stays(t, simple(wide))
	wide.Parts = append(wide.Parts[:len(wide.Parts)-1], num(1364), to(rep), to(rep))
	noPlan(t, simple(wide), api.ErrForm)
}

// Two deep cores that are the same, and many within them: only the outermost ones get OMemos.
func TestP20_1DeepPlans(t *testing.T) {
	long := rep
	for range 2000 {
		long = neg(long)
	}
	becomes(t, simple(to(long), guard(sched(0), to(long))), with(1, simple(to(memo(0, long)), guard(sched(0), to(memo(0, long))))))
	// One deeper than the other.
	becomes(t, simple(to(neg(long)), guard(sched(0), to(long))), with(1, simple(to(neg(memo(0, long))), guard(sched(0), to(memo(0, long))))))
	becomes(t, simple(to(long), guard(sched(0), to(neg(long)))), with(1, simple(to(memo(0, long)), guard(sched(0), to(neg(memo(0, long)))))))
	// Each half of a tree is the same as the other.
	c := neg(rep)
	for range 10 {
		half := c
		c = plus(half, half)
		becomes(t, simple(to(c)), with(1, simple(to(plus(memo(0, half), memo(0, half))))))
	}
}

func TestP20_1LocalsThatAreThere(t *testing.T) {
	c := neg(rep)
	for _, p := range []api.Plan{simple(hold), simple(to(rep)), simple(to(plus(c, c))), simple(to(memo(0, c))), simple(to(plus(memo(0, c), memo(0, c)))), simple(to(chain(1025, c)))} {
		for _, locals := range []int{1, 2, 255, 256} {
			noPlan(t, with(locals, p), api.ErrRange)
		}
	}
	// Such a plan that isn't formed is one that isn't formed first of all.
	for _, locals := range []int{-1, 257, most, least} {
		noPlan(t, with(locals, simple(hold)), api.ErrForm)
	}
	noPlan(t, with(1, simple(rep)), api.ErrForm)
	noPlan(t, with(1, simple(to(memo(1, c)))), api.ErrForm)
	noPlan(t, with(2, simple(to(plus(memo(0, c), memo(0, rep))))), api.ErrForm)
	noPlan(t, simple(to(memo(0, c))), api.ErrForm)
	noPlan(t, with(1, api.Plan{}), api.ErrForm)
	noPlan(t, with(1, simple(to(chain(1366, c)))), api.ErrForm)
	// A shared plan has locals, unless there was nothing to share.
	shared, _ := Plan(simple(to(plus(c, c))))
	noPlan(t, shared, api.ErrRange)
	shared, _ = Plan(simple(to(c)))
	stays(t, shared)
}
