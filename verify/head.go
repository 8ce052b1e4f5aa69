package verify

import (
	"capstan/api"
	"capstan/core"
	"capstan/cron"
	"capstan/window"
)

// headRight answers whether all is right in p that can be seen without a look at what its instructions
// are.
func headRight(p api.Program) bool {
	return p.Metrics >= 0 && p.Metrics <= api.MaxMetrics &&
		core.Right(p.Rules) &&
		fewEnough(p) &&
		windowsRight(p.Wins, p.Metrics) &&
		schedulesFormed(p.Crons) &&
		p.Locals >= 0 && p.Locals <= api.MaxLocals &&
		p.Height >= 0 && p.Height <= api.MaxHeight
}

func fewEnough(p api.Program) bool {
	return len(p.Consts) <= api.MaxConsts && len(p.Wins) <= api.MaxWins && len(p.Crons) <= api.MaxCrons &&
		len(p.Code) >= 1 && len(p.Code) <= api.MaxCode
}

func windowsRight(wins []api.Win, metrics int) bool {
	for _, w := range wins {
		if !window.Right(w) || w.Metric >= metrics {
			return false
		}
	}
	return true
}

func schedulesFormed(crons []api.Cron) bool {
	for _, c := range crons {
		if !cron.Formed(c) {
			return false
		}
	}
	return true
}
