package share

import (
	"strconv"
	"strings"

	"capstan/api"
)

// node is a node of a plan.
type node struct {
	core   *api.Core
	kind   int // the place of its kind in the list of these
	behind int // the place, in the plan's order, behind all that is within it
}

// kind is what is known of nodes that are the same.
type kind struct {
	times int // how many there are in the plan
	local int // the number that they were given, or none
}

// none is the number of what was given none.
const none = -1

// sharing is what is known of a plan whose nodes are put into OMemos.
type sharing struct {
	nodes  []node // in the plan's order
	kinds  []kind
	places map[string]int // from the text that stands for a core to the place of its kind
	locals int            // how many numbers were given
}

// shareCores puts what is worked out more than once in the cores of p, which has no OMemos yet, into
// OMemos.
func shareCores(p *api.Plan) {
	s := sharing{places: map[string]int{}}
	for _, c := range cores(p) {
		s.add(c)
	}
	for at := 0; at < len(s.nodes); {
		n := s.nodes[at]
		if s.worth(n) && s.give(n.kind) {
			memo := api.Core{Op: api.OMemo, N: int64(s.kinds[n.kind].local), Parts: []api.Core{*n.core}}
			*n.core = memo
			at = n.behind
		} else {
			at++
		}
	}
	p.Locals = s.locals
}

// add takes c and all that is within it; it answers the place of c's kind.
func (s *sharing) add(c *api.Core) int {
	at := len(s.nodes)
	s.nodes = append(s.nodes, node{core: c}) // ahead of its parts, though its kind is known behind them
	var parts []int
	for i := range c.Parts {
		parts = append(parts, s.add(&c.Parts[i]))
	}
	place := s.place(text(c, parts))
	s.kinds[place].times++
	s.nodes[at].kind, s.nodes[at].behind = place, len(s.nodes)
	return place
}

// place answers the place of the kind for which the text stands, a new one, if it wasn't met yet.
func (s *sharing) place(text string) int {
	place, met := s.places[text]
	if !met {
		place = len(s.kinds)
		s.kinds = append(s.kinds, kind{local: none})
		s.places[text] = place
	}
	return place
}

// text answers what stands for c, whose parts are of the kinds at these places: two cores are the same
// just if their texts are. A part stands there as a place: if its own text stood there, it would stand
// once more at each level above it.
func text(c *api.Core, parts []int) string {
	words := []string{strconv.Itoa(c.Op), strconv.FormatInt(c.N, 10), strconv.FormatInt(c.M, 10)}
	for _, place := range parts {
		words = append(words, strconv.Itoa(place))
	}
	return strings.Join(words, " ")
}

// worth answers whether n is a number or a truth that is worked out, and there is another one like it.
func (s *sharing) worth(n node) bool {
	return n.core.Op < api.OHold && len(n.core.Parts) > 0 && s.kinds[n.kind].times > 1
}

// give answers whether nodes of the kind at that place have a number; they get one, if they have none
// and there is one left.
func (s *sharing) give(place int) bool {
	k := &s.kinds[place]
	if k.local == none && s.locals < api.MaxLocals {
		k.local = s.locals
		s.locals++
	}
	return k.local != none
}
