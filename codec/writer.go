package codec

import "capstan/api"

// writer lays bytes one behind the other.
type writer struct {
	laid []byte
}

// put lays the numbers, each in size bytes, the highest first.
func (w *writer) put(size int, numbers ...int64) {
	for _, n := range numbers {
		for left := size - 1; left >= 0; left-- {
			w.laid = append(w.laid, byte(n>>(8*left)))
		}
	}
}

// putAll lays how many elements the list has, and then each by one.
func putAll[T any](w *writer, list []T, one func(T)) {
	w.put(4, int64(len(list)))
	for _, element := range list {
		one(element)
	}
}

// program lays the bytes of p, which can be told.
func (w *writer) program(p api.Program) {
	w.laid = append(w.laid, mark...)
	w.put(4, int64(p.Metrics), int64(p.Locals), int64(p.Height))
	w.put(8, p.Rules.Min, p.Rules.Max, p.Rules.Step, p.Rules.Up, p.Rules.Down)
	putAll(w, p.Consts, w.constant)
	putAll(w, p.Wins, w.window)
	putAll(w, p.Crons, w.schedule)
	putAll(w, p.Code, w.instruction)
}

func (w *writer) constant(n int64) {
	w.put(8, n)
}

func (w *writer) window(x api.Win) {
	w.put(4, int64(x.Metric), int64(x.Agg))
	w.put(8, x.Span, x.Rank)
}

func (w *writer) schedule(c api.Cron) {
	w.put(8, int64(c.Minute), int64(c.Hour), int64(c.Day), int64(c.Month), int64(c.Week))
}

func (w *writer) instruction(i api.Instr) {
	w.put(1, int64(i.Op))
	w.put(8, i.A)
}
