package vm

import "capstan/api"

// run is a program that is being run in an Env.
type run struct {
	p  api.Program
	v  api.Env
	at int // the instruction that is next

	stack  []int64
	locals []local
	tries  []try // those that are open, the latest last

	over bool
	says api.Raw // once it is over
}

// local is a place for what was worked out.
type local struct {
	set bool
	n   int64
}

// try is what a reason leads back to.
type try struct {
	target int
	stack  []int64 // as it was when the try was opened
}

func newRun(p api.Program, v api.Env) *run {
	return &run{p: p, v: v, stack: make([]int64, 0, p.Height), locals: make([]local, p.Locals)}
}

// ran answers what p, which is verified, says in v, which is an Env of it, and how many steps there
// were.
func ran(p api.Program, v api.Env) (api.Raw, int) {
	r, list, count := newRun(p, v), steps(), 0
	for ; !r.over; count++ {
		r.next(list)
	}
	return r.says, count
}

// next does the instruction that is next.
func (r *run) next(list []step) {
	i := r.p.Code[r.at]
	r.at++
	list[i.Op](r, i.A)
}

// put puts n on the stack.
func (r *run) put(n int64) {
	r.stack = append(r.stack, n)
}

// take takes the topmost. While a try is open no room is left behind the cut, so that what is put there
// next goes to other memory, and the stack that the try goes back to stays as it was.
func (r *run) take() int64 {
	last := len(r.stack) - 1
	n, room := r.stack[last], cap(r.stack)
	if len(r.tries) > 0 {
		room = last
	}
	r.stack = r.stack[:last:room]
	return n
}

// two takes the topmost two, and answers the lower one first.
func (r *run) two() (a, b int64) {
	b = r.take()
	return r.take(), b
}

func (r *run) top() int64 {
	return r.stack[len(r.stack)-1]
}

// fail ends the latest try that is open, or else the run.
func (r *run) fail(why api.Reason) {
	if len(r.tries) == 0 {
		r.end(api.Raw{Hold: true, Reason: why})
		return
	}
	t := r.shut()
	r.at, r.stack = t.target, t.stack
}

// shut shuts the latest try and answers it.
func (r *run) shut() try {
	last := len(r.tries) - 1
	t := r.tries[last]
	r.tries = r.tries[:last]
	return t
}

func (r *run) end(says api.Raw) {
	r.over, r.says = true, says
}
