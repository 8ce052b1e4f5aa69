package mean

import (
	"capstan/api"
	"capstan/cron"
	"capstan/window"
)

// told answers what each of the windows of a formed plan tells at t, having taken its metric's
// samples, none of which lies behind t.
func told(wins []api.Win, samples [][]api.Sample, t int64) []api.Result {
	list := make([]api.Result, len(wins))
	for i, terms := range wins {
		list[i] = read(terms, newest(samples[terms.Metric]), t)
	}
	return list
}

// read answers what a window tells at t, having taken the samples. No errno can come: the terms are
// right, and no time goes back.
func read(terms api.Win, samples []api.Sample, t int64) api.Result {
	w, _ := window.New(terms)
	for _, s := range samples {
		w.Put(s)
	}
	r, _ := w.Read(t)
	return r
}

// newest answers the samples that a window may still hold when it has taken all of these: so a long
// history isn't put into each of many windows.
func newest(samples []api.Sample) []api.Sample {
	return samples[max(0, len(samples)-api.MaxSamples):]
}

// named answers of each schedule whether it names the moment t.
func named(crons []api.Cron, t int64) []bool {
	list := make([]bool, len(crons))
	for i, c := range crons {
		list[i] = cron.Names(c, t)
	}
	return list
}
