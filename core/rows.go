package core

import (
	"capstan/api"
	"capstan/fix"
)

// row is what an operation is like.
type row struct {
	// fits answers whether N and M are such as the operation has.
	fits func(s *sorter, c api.Core) bool
	// sort answers the sort of c, which fits, its parts being of these sorts.
	sort func(c api.Core, parts []int) int
	// work answers what c, which is formed, comes to, or how many replicas it wants; or the reason
	// why there is no number.
	work func(t *teller, c api.Core) (int64, error)
}

// rows answers what the operations are like, each in the place of its number.
func rows() []row {
	one, two := makes(number, number), makes(number, number, number)
	compared, joined := makes(truth, number, number), makes(truth, truth, truth)
	return []row{
		api.ONum:    {anyNumber, makes(number), (*teller).own},
		api.OBool:   {zeroOrOne, makes(truth), (*teller).own},
		api.ORep:    {plain, makes(number), (*teller).replicas},
		api.OWin:    {(*sorter).ofWins, makes(number), (*teller).win},
		api.OCron:   {(*sorter).ofCrons, makes(truth), (*teller).cron},
		api.OFail:   {reasonAndSort, failSort, (*teller).fail},
		api.OMemo:   {(*sorter).ofLocals, memoSort, (*teller).memo},
		api.ONeg:    {plain, one, ofOne(fix.Neg)},
		api.ONot:    {plain, makes(truth, truth), ofOne(not)},
		api.OAbs:    {plain, one, ofOne(fix.Abs)},
		api.OCeil:   {plain, one, ofOne(fix.Ceil)},
		api.OFloor:  {plain, one, ofOne(fix.Floor)},
		api.OScale:  {factor, one, (*teller).scale},
		api.OAdd:    {plain, two, ofTwo(fix.Add)},
		api.OSub:    {plain, two, ofTwo(fix.Sub)},
		api.OMul:    {plain, two, ofTwo(fix.Mul)},
		api.ODiv:    {plain, two, (*teller).div},
		api.OLess:   {plain, compared, ofTwo(less)},
		api.OLeq:    {plain, compared, ofTwo(leq)},
		api.OEq:     {plain, compared, ofTwo(eq)},
		api.OMore:   {plain, compared, ofTwo(more)},
		api.OMeq:    {plain, compared, ofTwo(meq)},
		api.OMin:    {plain, two, ofTwo(lesser)},
		api.OMax:    {plain, two, ofTwo(greater)},
		api.OAnd:    {plain, joined, (*teller).and},
		api.OOr:     {plain, joined, (*teller).or},
		api.OEither: {plain, eitherSort, (*teller).either},
		api.OIf:     {plain, choiceSort, (*teller).choice},
		api.OHold:   {plain, makes(action), (*teller).hold},
		api.OTo:     {plain, makes(action, number), (*teller).to},
		api.OBy:     {plain, makes(action, number), (*teller).by},
		api.OLadder: {plain, ladderSort, (*teller).ladder},
	}
}

// ofOne makes the work of an operation that always has a number for its part's.
func ofOne(f func(int64) int64) func(*teller, api.Core) (int64, error) {
	return func(t *teller, c api.Core) (int64, error) {
		a, err := t.tell(c.Parts[0])
		if err != nil {
			return 0, err
		}
		return f(a), nil
	}
}

// ofTwo makes the work of an operation that always has a number for those of its two parts.
func ofTwo(f func(a, b int64) int64) func(*teller, api.Core) (int64, error) {
	return func(t *teller, c api.Core) (int64, error) {
		a, b, err := t.pair(c)
		if err != nil {
			return 0, err
		}
		return f(a, b), nil
	}
}

func not(a int64) int64 { return 1 - a }

func less(a, b int64) int64 { return truthOf(a < b) }

func leq(a, b int64) int64 { return truthOf(a <= b) }

func eq(a, b int64) int64 { return truthOf(a == b) }

func more(a, b int64) int64 { return truthOf(a > b) }

func meq(a, b int64) int64 { return truthOf(a >= b) }

func lesser(a, b int64) int64 { return min(a, b) }

func greater(a, b int64) int64 { return max(a, b) }

func truthOf(holds bool) int64 {
	if holds {
		return 1
	}
	return 0
}
