package check

import (
	"strings"

	"capstan/api"
)

// metric is what a metric's name stands for.
type metric struct {
	number int
	unit   api.Unit
}

// checker goes through the items of a formed policy, and makes the plan as it goes.
type checker struct {
	metrics map[string]metric
	lets    map[string]worked
	plan    api.Plan
	total   size // of the cores of plan

	// What the windows and schedules of all terms are. A worked core numbers its own by these
	// lists: what their numbers in a plan are hangs on where the core will stand.
	wins  []api.Win
	crons []api.Cron
}

func newChecker() *checker {
	return &checker{metrics: map[string]metric{}, lets: map[string]worked{}}
}

// item takes the next item; or answers its first fault.
func (c *checker) item(item api.Item) error {
	switch item.Kind {
	case api.IMetric:
		return faultAt(item.At, c.metric(item))
	case api.IReplicas:
		return faultAt(item.At, c.replicas(item))
	case api.IUp:
		return faultAt(item.At, once(&c.plan.Rules.Up, item.A))
	case api.IDown:
		return faultAt(item.At, once(&c.plan.Rules.Down, item.A))
	case api.ILet:
		return c.let(item)
	case api.IGuard:
		return c.guard(item)
	}
	return c.decide(item)
}

// taken answers whether a metric or a let bears the name.
func (c *checker) taken(name string) bool {
	_, isMetric := c.metrics[name]
	_, isLet := c.lets[name]
	return isMetric || isLet
}

func (c *checker) metric(item api.Item) api.Errno {
	if c.taken(item.Name) {
		return api.ErrTwice
	}
	unit, errno := unitOf(item.Unit)
	if errno != api.OK {
		return errno
	}
	number := len(c.plan.Metrics)
	if number == api.MaxMetrics {
		return api.ErrLarge
	}
	c.metrics[item.Name] = metric{number, unit}
	c.plan.Metrics = append(c.plan.Metrics, strings.Clone(item.Name))
	return api.OK
}

func (c *checker) replicas(item api.Item) api.Errno {
	r := &c.plan.Rules
	if r.Max != 0 { // those that were taken have a most of 1 at least
		return api.ErrTwice
	}
	if !wholes(item.A, item.B, item.C) || item.A > item.B {
		return api.ErrRange
	}
	least, most, step := item.A/api.One, item.B/api.One, item.C/api.One
	if most < 1 || most > api.MaxReplicas || step > api.MaxReplicas {
		return api.ErrRange
	}
	if step == 0 {
		step = most
	}
	r.Min, r.Max, r.Step = least, most, step
	return api.OK
}

// wholes answers whether all are whole numbers.
func wholes(list ...int64) bool {
	for _, n := range list {
		if n%api.One != 0 {
			return false
		}
	}
	return true
}

// once takes a cooldown's seconds, of which there is one at least: 0 stands for none yet.
func once(kept *int64, seconds int64) api.Errno {
	if *kept != 0 {
		return api.ErrTwice
	}
	*kept = seconds
	return api.OK
}

func (c *checker) let(item api.Item) error {
	w, err := c.term(item.Term)
	if err != nil {
		return err
	}
	if c.taken(item.Name) {
		return fault{item.At, api.ErrTwice}
	}
	c.lets[item.Name] = w
	return nil
}

func (c *checker) guard(item api.Item) error {
	when, err := c.term(item.Term)
	if err != nil {
		return err
	}
	then, err := c.term(item.Then)
	if err != nil {
		return err
	}
	if !when.truth {
		return fault{item.Term.At, api.ErrType}
	}
	if !c.room(when.size.plus(then.size)) {
		return fault{item.At, api.ErrLarge}
	}
	c.plan.Guards = append(c.plan.Guards, api.Guard{When: c.numbered(when.core), Then: c.numbered(then.core)})
	return nil
}

func (c *checker) decide(item api.Item) error {
	then, err := c.term(item.Then)
	if err != nil {
		return err
	}
	if !c.room(then.size) {
		return fault{item.At, api.ErrLarge}
	}
	if c.plan.Rules.Max == 0 {
		return fault{item.At, api.ErrMissing}
	}
	c.plan.Final = c.numbered(then.core)
	return nil
}

// room takes room in the plan for cores of the size; it answers whether there is so much.
func (c *checker) room(s size) bool {
	c.total = c.total.plus(s)
	return c.total.nodes <= api.MaxCore && c.total.wins <= api.MaxWins && c.total.crons <= api.MaxCrons
}

// numbered answers the core as it stands in the plan behind all that stands there already: its
// windows and schedules are the plan's next ones, and none of its memory is another's.
func (c *checker) numbered(core api.Core) api.Core {
	p := &c.plan
	switch core.Op {
	case api.OWin:
		p.Wins = append(p.Wins, c.wins[core.N])
		core.N = int64(len(p.Wins) - 1)
	case api.OCron:
		p.Crons = append(p.Crons, c.crons[core.N])
		core.N = int64(len(p.Crons) - 1)
	}
	parts := core.Parts
	core.Parts = nil
	for _, part := range parts {
		core.Parts = append(core.Parts, c.numbered(part))
	}
	return core
}
