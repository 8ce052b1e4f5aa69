package codec

import (
	"bytes"
	"encoding/hex"
	"fmt"
	"math"
	"reflect"
	"slices"
	"strings"
	"testing"

	"capstan/api"
)

const (
	most  = math.MaxInt64
	least = math.MinInt64
)

// unhex answers the bytes that are written in hexadecimal, with blanks between them.
func unhex(text string) []byte {
	b, err := hex.DecodeString(strings.Join(strings.Fields(text), ""))
	if err != nil {
		panic(err)
	}
	return b
}

// zeros answers the chapter's "bytes 0".
func zeros(count int) string {
	return strings.Repeat("00", count)
}

// small is the program of the chapter's example.
func small() api.Program {
	return api.Program{Rules: api.Rules{Max: 1, Step: 1}, Code: []api.Instr{{Op: api.IHold}}}
}

// one answers a program with one element in each list, all numbers being 0.
func one() api.Program {
	return api.Program{Consts: []int64{0}, Wins: []api.Win{{}}, Crons: []api.Cron{{}}, Code: []api.Instr{{}}}
}

// full answers a program in which no two numbers are the same.
func full() api.Program {
	return api.Program{
		Metrics: 0x01020304, Locals: 0x11121314, Height: 0x21222324,
		Rules:  api.Rules{Min: 0x31, Max: 0x32, Step: -2, Up: 0x34, Down: 0x3536373839},
		Consts: []int64{-1, 0x4142434445464748, least, most},
		Wins:   []api.Win{{Metric: 0x51, Agg: 0x52, Span: 0x53, Rank: -3}, {Metric: math.MaxInt32, Agg: 0x54, Span: -4, Rank: 0x55}, {Agg: math.MaxInt32}},
		Crons:  []api.Cron{{Minute: 0x61, Hour: 0x62, Day: 0x63, Month: 0x64, Week: 0x65}, {Minute: math.MaxUint64, Hour: 1 << 63, Day: 0x66, Month: 1 << 62, Week: 0x67}},
		Code:   []api.Instr{{Op: 0x71, A: 0x72}, {Op: 255, A: -5}, {}, {Op: 128, A: least}, {Op: 127, A: most}},
	}
}

// fullBytes are full's, written by hand.
func fullBytes() []byte {
	return unhex(`63707331 01020304 11121314 21222324
		0000000000000031 0000000000000032 fffffffffffffffe 0000000000000034 0000003536373839
		00000004 ffffffffffffffff 4142434445464748 8000000000000000 7fffffffffffffff
		00000003 00000051 00000052 0000000000000053 fffffffffffffffd
		7fffffff 00000054 fffffffffffffffc 0000000000000055
		00000000 7fffffff 0000000000000000 0000000000000000
		00000002 0000000000000061 0000000000000062 0000000000000063 0000000000000064 0000000000000065
		ffffffffffffffff 8000000000000000 0000000000000066 4000000000000000 0000000000000067
		00000005 71 0000000000000072 ff fffffffffffffffb 00 0000000000000000 80 8000000000000000 7f 7fffffffffffffff`)
}

// largest answers a program with as many elements as there may be.
func largest() api.Program {
	p := full()
	for i := range api.MaxConsts - len(p.Consts) {
		p.Consts = append(p.Consts, int64(i)-7000)
	}
	for i := range api.MaxWins - len(p.Wins) {
		p.Wins = append(p.Wins, api.Win{Metric: i, Agg: 300 - i, Span: int64(i) << 40, Rank: int64(-i)})
	}
	for i := range uint64(api.MaxCrons - len(p.Crons)) {
		p.Crons = append(p.Crons, api.Cron{Minute: i, Hour: i << 8, Day: i << 16, Month: i << 32, Week: ^i})
	}
	for i := range api.MaxCode - len(p.Code) {
		p.Code = append(p.Code, api.Instr{Op: i % 256, A: int64(i) * 12345678901})
	}
	return p
}

// brief answers what x is, without the rest of a large one.
func brief(x any) string {
	text := fmt.Sprint(x)
	return text[:min(len(text), 1000)]
}

// sameList answers whether both are the same; lists without elements are alike.
func sameList[T any](a, b []T) bool {
	return len(a)+len(b) == 0 || reflect.DeepEqual(a, b)
}

// sameProgram answers whether both are the same program; lists without elements are alike.
func sameProgram(a, b api.Program) bool {
	lists := sameList(a.Consts, b.Consts) && sameList(a.Wins, b.Wins) && sameList(a.Crons, b.Crons) && sameList(a.Code, b.Code)
	return lists && a.Metrics == b.Metrics && a.Rules == b.Rules && a.Locals == b.Locals && a.Height == b.Height
}

// encodes wants these bytes of p.
func encodes(t *testing.T, p api.Program, want []byte) {
	t.Helper()
	if b, errno := Encode(p); !bytes.Equal(b, want) || errno != api.OK {
		t.Errorf("Encode(%s): %s, %d, wanted %s", brief(p), brief(b), errno, brief(want))
	}
}

// decodes wants this program of b.
func decodes(t *testing.T, b []byte, want api.Program) {
	t.Helper()
	if p, errno := Decode(b); !sameProgram(p, want) || errno != api.OK {
		t.Errorf("Decode(%s): %s, %d, wanted %s", brief(b), brief(p), errno, brief(want))
	}
}

// noBytes wants that p can't be told.
func noBytes(t *testing.T, p api.Program) {
	t.Helper()
	if b, errno := Encode(p); len(b) != 0 || errno != api.ErrForm {
		t.Errorf("Encode(%s): %s, %d", brief(p), brief(b), errno)
	}
}

// noProgram wants that error of b.
func noProgram(t *testing.T, b []byte, want api.Errno) {
	t.Helper()
	if p, errno := Decode(b); !sameProgram(p, api.Program{}) || errno != want {
		t.Errorf("Decode(%s): %s, %d, wanted %d", brief(b), brief(p), errno, want)
	}
}

// joined answers the bytes of all, one behind the other, without room behind them.
func joined(parts ...[]byte) []byte {
	return slices.Clip(slices.Concat(parts...))
}

// changed answers b with other bytes from the place at on.
func changed(b []byte, at int, other ...byte) []byte {
	return joined(b[:at], other, b[at+len(other):])
}
