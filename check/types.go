package check

import (
	"capstan/api"
	"capstan/dim"
)

// nature is the type of a term: a truth, or a number of a dimension. (A truth's dimension is none.)
type nature struct {
	truth bool
	dim   api.Dim
}

// repDim is the dimension of rep.
var repDim = api.Dim{0, 0, 0, 1, 0}

// natureOf answers the type of a node of the kind that has these parts, if it is no ladder; or what
// is wrong with the parts. (An action has none: the zero one stands for that.)
func natureOf(kind int, parts []worked) (nature, api.Errno) {
	switch kind {
	case api.KNeg, api.KAbs, api.KCeil, api.KFloor:
		return parts[0].nature, numbers(parts)
	case api.KNot, api.KAnd, api.KOr:
		return nature{truth: true}, truths(parts)
	case api.KAdd, api.KSub, api.KMin, api.KMax:
		return parts[0].nature, likeNumbers(parts)
	case api.KLess, api.KLeq, api.KEq, api.KMore, api.KMeq:
		return nature{truth: true}, likeNumbers(parts)
	case api.KMul:
		return joined(parts, dim.Mul)
	case api.KDiv:
		return joined(parts, dim.Div)
	case api.KEither:
		return parts[0].nature, alike(parts[0].nature, parts[1].nature)
	case api.KIf:
		return choice(parts)
	case api.KTo, api.KBy:
		return nature{}, ofReplicas(parts)
	}
	return nature{}, api.OK
}

func numbers(parts []worked) api.Errno {
	for _, part := range parts {
		if part.truth {
			return api.ErrType
		}
	}
	return api.OK
}

func truths(parts []worked) api.Errno {
	for _, part := range parts {
		if !part.truth {
			return api.ErrType
		}
	}
	return api.OK
}

// alike wants two truths, or two numbers of one dimension.
func alike(a, b nature) api.Errno {
	switch {
	case a.truth != b.truth:
		return api.ErrType
	case a.dim != b.dim:
		return api.ErrDim
	}
	return api.OK
}

// likeNumbers wants two numbers of one dimension.
func likeNumbers(parts []worked) api.Errno {
	if errno := numbers(parts); errno != api.OK {
		return errno
	}
	return alike(parts[0].nature, parts[1].nature)
}

// joined answers the type of a product or a quotient of two numbers, whose dimension join answers.
func joined(parts []worked, join func(a, b api.Dim) (api.Dim, bool)) (nature, api.Errno) {
	if errno := numbers(parts); errno != api.OK {
		return nature{}, errno
	}
	d, ok := join(parts[0].dim, parts[1].dim)
	if !ok {
		return nature{}, api.ErrDim
	}
	return nature{dim: d}, api.OK
}

func choice(parts []worked) (nature, api.Errno) {
	if errno := truths(parts[:1]); errno != api.OK {
		return nature{}, errno
	}
	return parts[1].nature, alike(parts[1].nature, parts[2].nature)
}

// ofReplicas wants a number of replicas.
func ofReplicas(parts []worked) api.Errno {
	if errno := numbers(parts); errno != api.OK {
		return errno
	}
	return alike(parts[0].nature, nature{dim: repDim})
}
