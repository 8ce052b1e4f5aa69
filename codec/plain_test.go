package codec

import (
	"bytes"
	"encoding/binary"
	"testing"

	"capstan/api"
)

// The chapter's list of bytes read once more, by the library's means.

type plainHead struct {
	Mark                    [4]byte
	Metrics, Locals, Height uint32
	Rules                   [5]int64
}

type plainWin struct {
	Metric, Agg uint32
	Span, Rank  int64
}

type plainInstr struct {
	Op uint8
	A  int64
}

func plainEncode(p api.Program) []byte {
	var b bytes.Buffer
	put := func(x any) {
		if err := binary.Write(&b, binary.BigEndian, x); err != nil {
			panic(err)
		}
	}
	count := func(n int) { put(uint32(n)) }
	r := p.Rules
	put(plainHead{[4]byte{0x63, 0x70, 0x73, 0x31}, uint32(p.Metrics), uint32(p.Locals), uint32(p.Height), [5]int64{r.Min, r.Max, r.Step, r.Up, r.Down}})
	count(len(p.Consts))
	put(p.Consts)
	count(len(p.Wins))
	for _, w := range p.Wins {
		put(plainWin{uint32(w.Metric), uint32(w.Agg), w.Span, w.Rank})
	}
	count(len(p.Crons))
	for _, c := range p.Crons {
		put([]uint64{c.Minute, c.Hour, c.Day, c.Month, c.Week})
	}
	count(len(p.Code))
	for _, i := range p.Code {
		put(plainInstr{uint8(i.Op), i.A})
	}
	return b.Bytes()
}

// plainDecode answers the program whose bytes b is, and whether it is one's.
func plainDecode(b []byte) (api.Program, bool) {
	in, right := bytes.NewReader(b), true
	get := func(x any) {
		right = right && binary.Read(in, binary.BigEndian, x) == nil
	}
	four := func(n, most uint32) int {
		right = right && n <= most
		return int(n)
	}
	count := func(most uint32) int {
		var n uint32
		get(&n)
		if four(n, most); right {
			return int(n)
		}
		return 0
	}
	var head plainHead
	get(&head)
	right = right && head.Mark == [4]byte{'c', 'p', 's', '1'}
	r := head.Rules
	p := api.Program{Rules: api.Rules{Min: r[0], Max: r[1], Step: r[2], Up: r[3], Down: r[4]}}
	p.Metrics, p.Locals, p.Height = four(head.Metrics, 1<<31-1), four(head.Locals, 1<<31-1), four(head.Height, 1<<31-1)
	p.Consts = make([]int64, count(16384))
	get(p.Consts)
	for range count(256) {
		var w plainWin
		get(&w)
		p.Wins = append(p.Wins, api.Win{Metric: four(w.Metric, 1<<31-1), Agg: four(w.Agg, 1<<31-1), Span: w.Span, Rank: w.Rank})
	}
	p.Crons = make([]api.Cron, count(256))
	get(p.Crons)
	for range count(16384) {
		var i plainInstr
		get(&i)
		p.Code = append(p.Code, api.Instr{Op: int(i.Op), A: i.A})
	}
	if !right || in.Len() > 0 {
		return api.Program{}, false
	}
	return p, true
}

// readsPlainly wants of b, which isn't too long, what the plain reading says, and that a program's bytes are b.
func readsPlainly(t *testing.T, b []byte) bool {
	t.Helper()
	p, taken := plainDecode(b)
	if !taken {
		noProgram(t, b, api.ErrCode)
		return false
	}
	decodes(t, b, p)
	encodes(t, p, b)
	return true
}
