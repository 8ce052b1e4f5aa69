package check

import (
	"capstan/api"
	"capstan/fix"
)

// rungs answers what is worked out for the parts of a ladder, from the left; a bound is a number.
func (c *checker) rungs(t api.Term) ([]worked, error) {
	asked, err := c.term(t.Parts[0])
	if err != nil {
		return nil, err
	}
	if asked.truth {
		return nil, fault{t.At, api.ErrType}
	}
	list := []worked{asked}
	last := len(t.Parts) - 1
	for i := 1; i < last; i += 2 {
		bound, err := nextBound(t.Parts[i], list)
		if err != nil {
			return nil, err
		}
		then, err := c.term(t.Parts[i+1])
		if err != nil {
			return nil, err
		}
		list = append(list, bound, then)
	}
	otherwise, err := c.term(t.Parts[last])
	if err != nil {
		return nil, err
	}
	return append(list, otherwise), nil
}

// nextBound answers what is worked out for a bound behind these parts of its ladder: what is
// asked, and pairs of a bound and an action.
func nextBound(t api.Term, ahead []worked) (worked, error) {
	bound, err := literal(t)
	if err != nil {
		return worked{}, err
	}
	if bound.dim != ahead[0].dim {
		return worked{}, fault{t.At, api.ErrDim}
	}
	if len(ahead) > 1 && bound.core.N <= ahead[len(ahead)-2].core.N {
		return worked{}, fault{t.At, api.ErrLadder}
	}
	return bound, nil
}

// literal answers what is worked out for a number, or minus one, as one number.
func literal(t api.Term) (worked, error) {
	if t.Kind == api.KNeg {
		w, err := literal(t.Parts[0])
		w.core.N = fix.Neg(w.core.N)
		return w, err
	}
	w, errno := number(t)
	return w, faultAt(t.At, errno)
}
