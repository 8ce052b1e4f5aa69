package mono

import (
	"go/parser"
	"go/token"
	"math"
	"math/rand"
	"path/filepath"
	"slices"
	"strconv"
	"strings"
	"testing"
)

// made answers a new queue with the numbers put in.
func made(t *testing.T, high bool, numbers ...int64) *Mono {
	t.Helper()
	m := New(high)
	if m == nil {
		t.Fatal("New:", high)
	}
	for _, v := range numbers {
		m.Put(v)
	}
	return m
}

// keptOf answers which of the numbers are kept, by the chapter's words: each is held against all
// that came behind it.
func keptOf(high bool, numbers []int64) []int64 {
	list := []int64{}
	for i, v := range numbers {
		kept := true
		for _, later := range numbers[i+1:] {
			if !high && later <= v || high && later >= v {
				kept = false
			}
		}
		if kept {
			list = append(list, v)
		}
	}
	return list
}

// bestOf answers the least (the greatest) of the numbers.
func bestOf(high bool, numbers []int64) (int64, bool) {
	if len(numbers) == 0 {
		return 0, false
	}
	if high {
		return slices.Max(numbers), true
	}
	return slices.Min(numbers), true
}

// has asks all that tells of a queue whether just these are kept, with that many numbers in all.
func has(t *testing.T, m *Mono, count int, kept ...int64) {
	t.Helper()
	if m.Len() != count {
		t.Fatal("Len:", m.Len(), "wanted", count)
	}
	if list := m.Kept(); !slices.Equal(list, kept) {
		t.Fatal("Kept:", list, "wanted", kept)
	}
	best, there := int64(0), len(kept) > 0
	if there {
		best = kept[0]
	}
	if v, ok := m.Best(); v != best || ok != there {
		t.Fatal("Best:", v, ok, "wanted", best, there)
	}
}

// is asks whether just the numbers are in the queue.
func is(t *testing.T, m *Mono, high bool, numbers []int64) {
	t.Helper()
	has(t, m, len(numbers), keptOf(high, numbers)...)
	want, there := bestOf(high, numbers)
	if v, ok := m.Best(); v != want || ok != there {
		t.Fatal("Best:", v, ok, "wanted", want, there)
	}
}

// taken takes and looks at the answer.
func taken(t *testing.T, m *Mono, want bool) {
	t.Helper()
	if ok := m.Take(); ok != want {
		t.Fatal("Take:", ok)
	}
}

// throughout puts the numbers in, one by one, takes them all, and looks at the queue at each step.
func throughout(t *testing.T, m *Mono, high bool, numbers []int64) {
	t.Helper()
	for n, v := range numbers {
		is(t, m, high, numbers[:n])
		m.Put(v)
	}
	for n := range numbers {
		is(t, m, high, numbers[n:])
		taken(t, m, true)
	}
	is(t, m, high, nil)
	taken(t, m, false)
	is(t, m, high, nil)
}

func TestP6Examples(t *testing.T) {
	m := made(t, false, 3, 1, 2)
	has(t, m, 3, 1, 2)
	taken(t, m, true)
	has(t, m, 2, 1, 2)
	taken(t, m, true)
	has(t, m, 1, 2)
	m.Put(2)
	has(t, m, 2, 2)
	taken(t, m, true)
	has(t, m, 1, 2)
	has(t, made(t, true, 1, 3, 2), 3, 3, 2)
}

func TestP6_1NewIsEmpty(t *testing.T) {
	for _, high := range []bool{false, true} {
		has(t, made(t, high), 0)
		taken(t, made(t, high), false)
	}
}

func TestP6_1LeastAndGreatest(t *testing.T) {
	numbers := []int64{5, -2, 9, 0, 9, -2, 4}
	has(t, made(t, false, numbers...), 7, -2, 4)
	has(t, made(t, true, numbers...), 7, 9, 4)
}

func TestP6_2TakeOfAnEmptyQueue(t *testing.T) {
	for _, high := range []bool{false, true} {
		m := made(t, high)
		for range 3 {
			taken(t, m, false)
			has(t, m, 0)
		}
		m.Put(-4)
		has(t, m, 1, -4)
		taken(t, m, true)
		taken(t, m, false)
		m.Put(6)
		has(t, m, 1, 6)
	}
}

func TestP6_2TakeOfOneThatIsKeptAndOneThatIsNot(t *testing.T) {
	for _, high := range []bool{false, true} {
		sign := int64(1)
		if high {
			sign = -1
		}
		m := made(t, high)
		for _, v := range []int64{7, 6, 1, 5, 3, 4} {
			m.Put(sign * v)
		}
		has(t, m, 6, sign*1, sign*3, sign*4)
		taken(t, m, true) // the 7
		has(t, m, 5, sign*1, sign*3, sign*4)
		taken(t, m, true) // the 6
		has(t, m, 4, sign*1, sign*3, sign*4)
		taken(t, m, true) // the 1, which is kept
		has(t, m, 3, sign*3, sign*4)
		taken(t, m, true) // the 5
		has(t, m, 2, sign*3, sign*4)
		taken(t, m, true) // the 3, which is kept
		has(t, m, 1, sign*4)
		taken(t, m, true)
		has(t, m, 0)
		taken(t, m, false)
	}
}

func TestP6_2RunEmptyAndFilledAgainManyTimes(t *testing.T) {
	for _, high := range []bool{false, true} {
		m := made(t, high)
		random := rand.New(rand.NewSource(61))
		for round := range 200 {
			numbers := make([]int64, round%23)
			for i := range numbers {
				numbers[i] = random.Int63n(9) - 4
			}
			throughout(t, m, high, numbers)
		}
	}
}

func TestP6_3OneNumber(t *testing.T) {
	for _, high := range []bool{false, true} {
		for _, v := range []int64{0, 1, -1, math.MinInt64, math.MaxInt64} {
			throughout(t, made(t, high), high, []int64{v})
		}
	}
}

func TestP6_3RisingFallingAndAlike(t *testing.T) {
	for _, high := range []bool{false, true} {
		for size := range 40 {
			rising, falling, alike := []int64{}, []int64{}, []int64{}
			for n := range int64(size) {
				rising = append(rising, 3*n-20)
				falling = append(falling, 20-3*n)
				alike = append(alike, 7)
			}
			throughout(t, made(t, high), high, rising)
			throughout(t, made(t, high), high, falling)
			throughout(t, made(t, high), high, alike)
			throughout(t, made(t, high), high, slices.Concat(rising, falling))
			throughout(t, made(t, high), high, slices.Concat(falling, alike, rising))
		}
	}
	has(t, made(t, false, 1, 2, 3), 3, 1, 2, 3)
	has(t, made(t, true, 1, 2, 3), 3, 3)
	has(t, made(t, false, 3, 2, 1), 3, 1)
	has(t, made(t, true, 3, 2, 1), 3, 3, 2, 1)
}

// Of equal numbers the later one is kept: it is there still when the earlier ones have left.
func TestP6_3OfEqualNumbersTheLaterIsKept(t *testing.T) {
	for _, high := range []bool{false, true} {
		m := made(t, high, 5, 5, 5)
		has(t, m, 3, 5)
		taken(t, m, true)
		has(t, m, 2, 5)
		taken(t, m, true)
		has(t, m, 1, 5)
		taken(t, m, true)
		has(t, m, 0)
		other := int64(9)
		if high {
			other = 1
		}
		m = made(t, high, 5, other, 5)
		has(t, m, 3, 5)
		m.Put(other)
		has(t, m, 4, 5, other)
		for range 2 {
			taken(t, m, true)
		}
		has(t, m, 2, 5, other)
		taken(t, m, true)
		has(t, m, 1, other)
		m.Put(other)
		has(t, m, 2, other)
	}
}

func TestP6_3EndsOfInt64(t *testing.T) {
	const low, top = math.MinInt64, math.MaxInt64
	has(t, made(t, false, top, low, top), 3, low, top)
	has(t, made(t, true, top, low, top), 3, top)
	has(t, made(t, false, low, top, low), 3, low)
	has(t, made(t, true, low, top, low), 3, top, low)
	has(t, made(t, false, low, low+1, top-1, top), 4, low, low+1, top-1, top)
	has(t, made(t, true, top, top-1, low+1, low), 4, top, top-1, low+1, low)
	ends := []int64{low, top, low + 1, -1, top - 1, 0, 1}
	for _, high := range []bool{false, true} {
		for a := range ends {
			for b := range ends {
				for c := range ends {
					throughout(t, made(t, high), high, []int64{ends[a], ends[b], ends[c]})
				}
			}
		}
	}
}

// Every queue of up to six numbers of four kinds.
func TestP6_3AllShortQueues(t *testing.T) {
	for _, high := range []bool{false, true} {
		for size := range 7 {
			numbers := make([]int64, size)
			for code := range 1 << (2 * size) {
				for i := range numbers {
					numbers[i] = int64(code >> (2 * i) & 3)
				}
				throughout(t, made(t, high), high, numbers)
			}
		}
	}
}

func TestP6_3KeptIsNewMemory(t *testing.T) {
	numbers := []int64{4, 1, 2, 2, 3, 8}
	m := made(t, false, numbers...)
	want := []int64{1, 2, 3, 8}
	a, b := m.Kept(), m.Kept()
	for i := range a[:cap(a)] {
		a[:cap(a)][i] = -1
	}
	_ = append(a, -2)
	_ = append(a[:1], -3, -4)
	is(t, m, false, numbers)
	if !slices.Equal(b, want) {
		t.Error("two lists share memory:", b)
	}
	a = append(m.Kept(), 77)
	m.Put(9)
	has(t, m, 7, 1, 2, 3, 8, 9)
	if !slices.Equal(a, []int64{1, 2, 3, 8, 77}) {
		t.Error("what was put more onto a list:", a)
	}
}

func TestP6_3KeptStaysWhenTheQueueIsChanged(t *testing.T) {
	changes := []func(*Mono){
		func(m *Mono) { m.Put(100) },
		func(m *Mono) { m.Put(-100) },
		func(m *Mono) { m.Put(2) },
		func(m *Mono) { m.Take() },
		func(m *Mono) {
			for m.Take() {
			}
		},
		func(m *Mono) {
			for m.Take() {
				m.Put(-5)
				m.Take()
			}
			m.Put(6)
		},
	}
	for _, change := range changes {
		m := made(t, false, 4, 1, 2, 2, 3, 8)
		list := m.Kept()
		change(m)
		if !slices.Equal(list, []int64{1, 2, 3, 8}) {
			t.Error("a list hangs on its queue:", list)
		}
		h := made(t, true, 4, 9, 7, 7, 3)
		list = h.Kept()
		change(h)
		if !slices.Equal(list, []int64{9, 7, 3}) {
			t.Error("a list hangs on its queue:", list)
		}
	}
}

func TestP6_4Nil(t *testing.T) {
	var m *Mono
	for range 3 {
		has(t, m, 0)
		for _, v := range []int64{3, 0, math.MinInt64, math.MaxInt64} {
			m.Put(v)
			has(t, m, 0)
			taken(t, m, false)
		}
	}
}

func TestP6_4ZeroIsForTheLeast(t *testing.T) {
	var empty Mono
	has(t, &empty, 0)
	taken(t, &empty, false)
	has(t, &empty, 0)
	var m Mono
	throughout(t, &m, false, []int64{5, 2, 4, 4, 3, 9, -1, 7})
	zero := new(Mono)
	for _, v := range []int64{3, 1, 2} {
		zero.Put(v)
	}
	has(t, zero, 3, 1, 2)
}

// longRun makes any run of calls on a queue and on a plain list, and looks at each step (or, of a
// long queue, at some) whether they agree. More come than leave, and the other way, by turns.
func longRun(t *testing.T, random *rand.Rand, high bool, steps, turn int, next func() int64) {
	t.Helper()
	m := made(t, high)
	plain := []int64{}
	for step := range steps {
		if random.Intn(5) < 1+2*(step/turn%2) {
			taken(t, m, len(plain) > 0)
			plain = plain[min(1, len(plain)):]
		} else {
			v := next()
			m.Put(v)
			plain = append(plain, v)
		}
		if m.Len() != len(plain) {
			t.Fatal("Len:", m.Len(), len(plain))
		}
		want, there := bestOf(high, plain)
		if v, ok := m.Best(); v != want || ok != there {
			t.Fatal("Best:", v, ok, "wanted", want, there)
		}
		if len(plain) < 50 || step%100 == 0 {
			is(t, m, high, plain)
		}
		countsAgree(t, m)
	}
}

// countsAgree looks at what is forgotten: it is counted, and no more memory is kept than that.
func countsAgree(t *testing.T, m *Mono) {
	t.Helper()
	count := 0
	for _, k := range m.list {
		if k.ahead < 0 {
			t.Fatal("forgotten:", k.ahead)
		}
		count += k.ahead + 1
	}
	if count != m.count {
		t.Fatal("counted:", count, "wanted", m.count)
	}
}

func TestP6AgreesWithAPlainList(t *testing.T) {
	random := rand.New(rand.NewSource(6))
	for run := range 60 {
		for _, high := range []bool{false, true} {
			wide := int64(1) << (run % 20)
			walk := int64(0)
			longRun(t, random, high, 500, 1+random.Intn(100), func() int64 { return random.Int63n(wide) - wide/2 })
			longRun(t, random, high, 500, 1+random.Intn(100), func() int64 { return int64(random.Uint64()) })
			longRun(t, random, high, 500, 1+random.Intn(100), func() int64 {
				walk += random.Int63n(7) - 3 + int64(run%3) - 1 // it wanders, and rises or falls on the whole
				return walk
			})
		}
	}
	for _, high := range []bool{false, true} {
		longRun(t, random, high, 20000, 700, func() int64 { return random.Int63n(1000) })
	}
}

// A queue of some length through which very many go takes no more memory than that length, and
// each call is short.
func TestP6VeryManyGoThrough(t *testing.T) {
	const length, steps = 4096, 1 << 21
	for _, sign := range []int64{1, -1} {
		for _, high := range []bool{false, true} {
			m := made(t, high)
			for n := range int64(steps) {
				m.Put(sign * n)
				if m.Len() > length {
					taken(t, m, true)
				}
				if cap(m.list) > 4*length {
					t.Fatal("room:", cap(m.list))
				}
			}
			first, last := sign*(steps-length), sign*(steps-1)
			want := min(first, last)
			if high {
				want = max(first, last)
			}
			if v, ok := m.Best(); v != want || !ok || m.Len() != length {
				t.Fatal(sign, high, v, ok, m.Len())
			}
		}
	}
}

// A queue that was long once doesn't keep that room.
func TestP6RoomIsGivenBack(t *testing.T) {
	m := made(t, false)
	for n := range int64(100000) {
		m.Put(n)
	}
	for m.Len() > 3 {
		m.Take()
	}
	has(t, m, 3, 99997, 99998, 99999)
	if cap(m.list) > 16 {
		t.Error("room for three:", cap(m.list))
	}
}

// R7: queues don't hang on one another.
func TestP6TwoQueues(t *testing.T) {
	a, b := made(t, false, 1, 2, 3), made(t, true, 1, 2, 3)
	c := made(t, false, 1, 2, 3)
	a.Take()
	a.Put(0)
	has(t, a, 3, 0)
	has(t, b, 3, 3)
	has(t, c, 3, 1, 2, 3)
	b.Put(2)
	c.Take()
	has(t, a, 3, 0)
	has(t, b, 4, 3, 2)
	has(t, c, 2, 2, 3)
}

func TestCallsOnlyApi(t *testing.T) {
	files, err := filepath.Glob("*.go")
	if err != nil || len(files) == 0 {
		t.Fatal(files, err)
	}
	for _, name := range files {
		if strings.HasSuffix(name, "_test.go") {
			continue
		}
		file, err := parser.ParseFile(token.NewFileSet(), name, nil, parser.ImportsOnly)
		if err != nil {
			t.Fatal(err)
		}
		for _, spec := range file.Imports {
			path, _ := strconv.Unquote(spec.Path.Value)
			if strings.HasPrefix(path, "capstan/") && path != "capstan/api" {
				t.Errorf("%s imports %s", name, path)
			}
		}
	}
}
