package codec

import (
	"errors"

	"capstan/api"
)

// errCode is what the reader gives up with.
var errCode = errors.New("these are the bytes of no program")

// reader takes bytes from the front. Where it can't go on it panics with errCode.
type reader struct {
	rest []byte // what isn't taken yet
}

// want gives up, unless it holds.
func want(holds bool) {
	if !holds {
		panic(errCode)
	}
}

// cut takes size bytes. Room behind the last byte is none of them, so their number is asked for first.
func (r *reader) cut(size int) []byte {
	want(size <= len(r.rest))
	taken := r.rest[:size:size]
	r.rest = r.rest[size:]
	return taken
}

// number takes a number in size bytes, the highest first.
func (r *reader) number(size int) uint64 {
	n := uint64(0)
	for _, b := range r.cut(size) {
		n = n<<8 | uint64(b)
	}
	return n
}

// four takes a number in four bytes.
func (r *reader) four() int {
	n := r.number(4)
	want(n <= maxFour)
	return int(n)
}

// eight takes a number in eight bytes.
func (r *reader) eight() int64 {
	return int64(r.number(8))
}

// list takes how many elements there are, at most that many, and then each by one.
func list[T any](r *reader, most int, one func() T) []T {
	count := r.four()
	want(count <= most)
	var made []T
	for range count {
		made = append(made, one())
	}
	return made
}

// program takes a program, with nothing behind it. (Calls within a literal come in the order in which
// they stand.)
func (r *reader) program() api.Program {
	want(string(r.cut(len(mark))) == mark)
	p := api.Program{
		Metrics: r.four(),
		Locals:  r.four(),
		Height:  r.four(),
		Rules:   r.rules(),
		Consts:  list(r, api.MaxConsts, r.eight),
		Wins:    list(r, api.MaxWins, r.window),
		Crons:   list(r, api.MaxCrons, r.schedule),
		Code:    list(r, api.MaxCode, r.instruction),
	}
	want(len(r.rest) == 0)
	return p
}

func (r *reader) rules() api.Rules {
	return api.Rules{Min: r.eight(), Max: r.eight(), Step: r.eight(), Up: r.eight(), Down: r.eight()}
}

func (r *reader) window() api.Win {
	return api.Win{Metric: r.four(), Agg: r.four(), Span: r.eight(), Rank: r.eight()}
}

func (r *reader) schedule() api.Cron {
	return api.Cron{Minute: r.number(8), Hour: r.number(8), Day: r.number(8), Month: r.number(8), Week: r.number(8)}
}

func (r *reader) instruction() api.Instr {
	return api.Instr{Op: int(r.number(1)), A: r.eight()}
}
