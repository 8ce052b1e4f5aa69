package codec

import "capstan/api"

// canBeTold answers whether p has bytes: not whether it makes sense.
func canBeTold(p api.Program) bool {
	if len(p.Consts) > api.MaxConsts || len(p.Wins) > api.MaxWins || len(p.Crons) > api.MaxCrons || len(p.Code) > api.MaxCode {
		return false
	}
	for _, w := range p.Wins {
		if !within(maxFour, w.Metric, w.Agg) {
			return false
		}
	}
	for _, i := range p.Code {
		if !within(0xff, i.Op) {
			return false
		}
	}
	return within(maxFour, p.Metrics, p.Locals, p.Height)
}

// within answers whether all of the numbers are 0 to most.
func within(most int, numbers ...int) bool {
	for _, n := range numbers {
		if n < 0 || n > most {
			return false
		}
	}
	return true
}
