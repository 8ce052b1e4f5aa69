package codec

import (
	"math/rand"
	"testing"

	"capstan/api"
	"capstan/check"
	"capstan/code"
	"capstan/fold"
	"capstan/prune"
	"capstan/share"
)

// maker makes programs and bytes by chance, always the same ones from one seed.
type maker struct {
	*rand.Rand
}

func newMaker(seed int64) maker {
	return maker{rand.New(rand.NewSource(seed))}
}

// eight answers a number of any size.
func (m maker) eight() int64 {
	return int64(m.Uint64()) >> m.Intn(64)
}

// four answers one from 0 to 2^31 - 1.
func (m maker) four() int {
	return int(m.Int31() >> m.Intn(32))
}

func (m maker) bits() uint64 {
	return m.Uint64() >> m.Intn(64)
}

func (m maker) program(most int) api.Program {
	p := api.Program{
		Metrics: m.four(), Locals: m.four(), Height: m.four(),
		Rules: api.Rules{Min: m.eight(), Max: m.eight(), Step: m.eight(), Up: m.eight(), Down: m.eight()},
	}
	for range m.Intn(most) {
		p.Consts = append(p.Consts, m.eight())
	}
	for range m.Intn(most) {
		p.Wins = append(p.Wins, api.Win{Metric: m.four(), Agg: m.four(), Span: m.eight(), Rank: m.eight()})
	}
	for range m.Intn(most) {
		p.Crons = append(p.Crons, api.Cron{Minute: m.bits(), Hour: m.bits(), Day: m.bits(), Month: m.bits(), Week: m.bits()})
	}
	for range m.Intn(most) {
		p.Code = append(p.Code, api.Instr{Op: m.Intn(256), A: m.eight()})
	}
	return p
}

// spoiled answers b with some bytes other than they were, left out, or put in.
func (m maker) spoiled(b []byte) []byte {
	for range 1 + m.Intn(3) {
		at := m.Intn(len(b))
		switch m.Intn(8) {
		case 0:
			b = b[:at+1]
		case 1:
			b = joined(b[:at], b[at+1:])
		case 2:
			b = joined(b[:at], []byte{byte(m.Intn(256))}, b[at:])
		case 3:
			b = changed(b, at, 0)
		default:
			b = changed(b, at, b[at]^1<<m.Intn(8))
		}
		if len(b) == 0 {
			return b
		}
	}
	return b
}

// thereAndBack wants that p's bytes, which must be the plain ones, are read as p.
func thereAndBack(t *testing.T, p api.Program) {
	t.Helper()
	encodes(t, p, plainEncode(p))
	b, _ := Encode(p)
	decodes(t, b, p)
}

func TestP22_3Programs(t *testing.T) {
	for _, p := range []api.Program{{}, small(), one(), full(), largest()} {
		thereAndBack(t, p)
	}
	m := newMaker(1)
	for range 3000 {
		thereAndBack(t, m.program(1+m.Intn(12)))
	}
	for range 40 {
		thereAndBack(t, m.program(257))
	}
}

func TestP22_3Bytes(t *testing.T) {
	m := newMaker(2)
	taken, refused := 0, 0
	for range 30000 {
		b, _ := Encode(m.program(1 + m.Intn(5)))
		if readsPlainly(t, m.spoiled(b)) {
			taken++
		} else {
			refused++
		}
	}
	if taken < 1000 || refused < 1000 {
		t.Error(taken, refused)
	}
}

// Bytes by chance, behind the right first ones, in which counts are small often enough.
func TestP22_3AnyBytes(t *testing.T) {
	m := newMaker(3)
	for range 30000 {
		b := make([]byte, m.Intn(200))
		for at := range b {
			if m.Intn(6) == 0 {
				b[at] = byte(m.Intn(256) >> m.Intn(8))
			}
		}
		if m.Intn(4) > 0 {
			copy(b, mark)
		}
		readsPlainly(t, b)
	}
}

// What policies are made to, with the passes and without.
func TestP22_3ProgramsOfPolicies(t *testing.T) {
	for _, text := range []string{
		"policy p; replicas 1..9; decide to 2[rep];",
		"policy p; replicas 1..9; metric cpu [pct]; decide by if(either(avg(cpu, 1m), 0) > 80[pct], 1[rep], 0[rep]);",
		"policy p; replicas 1..9 step 2; cooldown up 30s; cooldown down 7d; decide to 9[rep];",
		`policy p; replicas 0..1000000; guard cron("0 3 * * *") then to 1[rep]; guard cron("*/5 0-23 1,31 2-12 0") then hold; decide to 6[rep];`,
		"policy p; replicas 1..9; metric q; metric lat [ms]; decide ladder sum(q, 10s) + rank(lat, 7d, 99.9) / 1[s] { 5: to 1[rep], 10: by -2[rep], else: hold };",
		"policy p; replicas 1..9; metric q; let x = avg(q, 1m) + 1; guard x > 5 and not (x < 7) then to x * 1[rep]; decide by (x - 3) * replicas;",
	} {
		plan, at, errno := check.Load(text)
		if errno != api.OK {
			t.Fatal(text, at, errno)
		}
		folded, _ := fold.Plan(plan)
		pruned, _ := prune.Plan(folded)
		shared, _ := share.Plan(pruned)
		for _, p := range []api.Plan{plan, folded, pruned, shared} {
			made, errno := code.Emit(p)
			if errno != api.OK || len(made.Code) == 0 {
				t.Fatal(text, errno)
			}
			thereAndBack(t, made)
		}
	}
}
