package tree

import "capstan/api"

// node is a term by its number of parts: each number has a type of its own, whose parts have
// names, so that none is taken which isn't there.
type node interface {
	// plain answers whether its kind is one of first to last, and it has neither a text nor numbers.
	plain(first, last int) bool
}

// head is what a term has beside its parts, but for its place, which is never asked.
type head struct {
	kind int
	text string
	n, m int64
}

func (h head) plain(first, last int) bool {
	return h.kind >= first && h.kind <= last && h.text == "" && h.n == 0 && h.m == 0
}

type leaf struct{ head }

type single struct {
	head
	part api.Term
}

type double struct {
	head
	first, second api.Term
}

type triple struct {
	head
	first, second, third api.Term
}

// many is a node of four parts or more: between the first and the last stand two or more.
type many struct {
	head
	first   api.Term
	between []api.Term
	last    api.Term
}

func nodeOf(t api.Term) node {
	own := head{kind: t.Kind, text: t.Text, n: t.N, m: t.M}
	p := t.Parts
	switch len(p) {
	case 0:
		return leaf{own}
	case 1:
		return single{own, p[0]}
	case 2:
		return double{own, p[0], p[1]}
	case 3:
		return triple{own, p[0], p[1], p[2]}
	}
	last := len(p) - 1
	return many{own, p[0], p[1:last], p[last]}
}

// formedNode answers the node of a formed expression or action; nil, if t is neither.
func formedNode(t api.Term) node {
	n := nodeOf(t)
	if expression(n) || action(n) {
		return n
	}
	return nil
}

// partsAs takes n for a node of the kind, and answers its parts. Where n is none, or has another
// number of parts than the kind, the assertion panics: then there are none to answer.
func partsAs(n node, kind int) (parts []api.Term, ok bool) {
	defer func() {
		if recover() != nil {
			parts, ok = nil, false
		}
	}()
	switch {
	case kind <= api.KRank || kind == api.KHold:
		_ = n.(leaf)
	case kind <= api.KFloor || kind == api.KTo || kind == api.KBy:
		parts = []api.Term{n.(single).part}
	case kind <= api.KEither:
		two := n.(double)
		parts = []api.Term{two.first, two.second}
	case kind == api.KIf:
		three := n.(triple)
		parts = []api.Term{three.first, three.second, three.third}
	default:
		parts = ladderParts(n)
	}
	return parts, true
}

// ladderParts answers the parts of a ladder, and panics at what can't be one.
func ladderParts(n node) []api.Term {
	if two, ok := n.(double); ok {
		return []api.Term{two.first, two.second}
	}
	more := n.(many)
	parts := append([]api.Term{more.first}, more.between...)
	return append(parts, more.last)
}
