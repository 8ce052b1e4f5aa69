package rank

import (
	"go/parser"
	"go/token"
	"math"
	"math/big"
	"math/rand"
	"path/filepath"
	"slices"
	"strconv"
	"strings"
	"testing"
)

// made answers a new Rank with the numbers put in.
func made(t *testing.T, numbers ...int64) *Rank {
	t.Helper()
	r := New()
	if r == nil {
		t.Fatal("New: nil")
	}
	for _, v := range numbers {
		r.Put(v)
	}
	return r
}

// sorted answers the numbers in rising order, by the plainest means.
func sorted(numbers []int64) []int64 {
	list := slices.Clone(numbers)
	slices.Sort(list)
	return list
}

// without answers the numbers less one v, and whether there was one.
func without(numbers []int64, v int64) ([]int64, bool) {
	i := slices.Index(numbers, v)
	if i < 0 {
		return numbers, false
	}
	return slices.Delete(slices.Clone(numbers), i, i+1), true
}

// byOf answers the nearest rank by the chapter's words, reckoned without bounds.
func byOf(rising []int64, percent int64) (int64, bool) {
	if len(rising) == 0 || percent < 1 || percent > 100000000 {
		return 0, false
	}
	product := new(big.Int).Mul(big.NewInt(percent), big.NewInt(int64(len(rising))))
	k, rest := new(big.Int).QuoRem(product, big.NewInt(100000000), new(big.Int))
	if rest.Sign() > 0 {
		k.Add(k, big.NewInt(1))
	}
	return rising[k.Int64()-1], true
}

// percents answers percents that are of interest for that many numbers: at which percent times
// count is just a multiple of 100000000 (where there are such), is the next below or above one,
// and those at the ends.
func percents(count int) []int64 {
	list := []int64{math.MinInt64, math.MinInt64 + 1, -100000000, -1, 0, 1, 2, 50000000, 99999999, 100000000,
		100000001, 200000000, math.MaxInt64 - 1, math.MaxInt64}
	for k := 1; k <= count; k++ {
		p := int64(k) * 100000000 / int64(count)
		list = append(list, p-1, p, p+1)
	}
	return list
}

// at asks one number by its place in the order.
func at(t *testing.T, r *Rank, i int, want int64, there bool) {
	t.Helper()
	if v, ok := r.At(i); v != want || ok != there {
		t.Fatal("At:", i, v, ok, "wanted", want, there)
	}
}

// by asks one number by percent.
func by(t *testing.T, r *Rank, percent, want int64, there bool) {
	t.Helper()
	if v, ok := r.By(percent); v != want || ok != there {
		t.Fatal("By:", percent, v, ok, "wanted", want, there)
	}
}

// taken takes v and looks at the answer.
func taken(t *testing.T, r *Rank, v int64, want bool) {
	t.Helper()
	if ok := r.Take(v); ok != want {
		t.Fatal("Take:", v, ok)
	}
}

// has asks all that tells of a Rank whether just these numbers, which rise, are there.
func has(t *testing.T, r *Rank, rising ...int64) {
	t.Helper()
	if r.Len() != len(rising) {
		t.Fatal("Len:", r.Len(), "wanted", len(rising))
	}
	if list := r.List(); !slices.Equal(list, rising) {
		t.Fatal("List:", list, "wanted", rising)
	}
	for i, v := range rising {
		at(t, r, i, v, true)
	}
	for _, i := range []int{math.MinInt, math.MinInt + 1, -len(rising) - 1, -2, -1,
		len(rising), len(rising) + 1, len(rising) + 1000000, math.MaxInt - 1, math.MaxInt} {
		at(t, r, i, 0, false)
	}
	for _, percent := range percents(len(rising)) {
		want, there := byOf(rising, percent)
		by(t, r, percent, want, there)
	}
}

// throughout puts the numbers in, one by one, takes them in the order of leaving, and looks at each
// step.
func throughout(t *testing.T, r *Rank, numbers, leaving []int64) {
	t.Helper()
	for n, v := range numbers {
		has(t, r, sorted(numbers[:n])...)
		r.Put(v)
	}
	rest := numbers
	for _, v := range leaving {
		has(t, r, sorted(rest)...)
		left, there := without(rest, v)
		taken(t, r, v, there)
		rest = left
	}
	has(t, r, sorted(rest)...)
}

// waysToLeave answers the numbers in some orders in which they may be taken.
func waysToLeave(numbers []int64) [][]int64 {
	rising := sorted(numbers)
	falling := slices.Clone(rising)
	slices.Reverse(falling)
	middle := slices.Clone(rising[len(rising)/2:])
	return [][]int64{numbers, rising, falling, append(middle, rising[:len(rising)/2]...)}
}

func TestP7Examples(t *testing.T) {
	r := made(t, 5, 1, 3)
	has(t, r, 1, 3, 5)
	by(t, r, 50000000, 3, true)
	by(t, r, 1, 1, true)
	by(t, r, 100000000, 5, true)
	by(t, r, 33333333, 1, true)
	by(t, r, 33333334, 3, true)
	by(t, r, 0, 0, false)
	taken(t, r, 3, true)
	taken(t, r, 3, false)
	at(t, r, 1, 5, true)
	has(t, r, 1, 5)
}

func TestP7_1NewHasNoNumbers(t *testing.T) {
	r := made(t)
	has(t, r)
	for _, v := range []int64{0, 1, -1, math.MinInt64, math.MaxInt64} {
		taken(t, r, v, false)
		has(t, r)
	}
}

func TestP7_1OneNumber(t *testing.T) {
	for _, v := range []int64{0, 7, -7, math.MinInt64, math.MaxInt64} {
		r := made(t, v)
		has(t, r, v)
		taken(t, r, v^1, false)
		has(t, r, v)
		taken(t, r, v, true)
		has(t, r)
		taken(t, r, v, false)
		has(t, r)
	}
}

func TestP7_1RisingFallingAndAlike(t *testing.T) {
	for _, numbers := range [][]int64{
		{1, 2, 3, 4, 5, 6, 7, 8, 9},
		{9, 8, 7, 6, 5, 4, 3, 2, 1},
		{4, 4, 4, 4, 4, 4, 4, 4, 4},
		{0, 0, 0, 0},
		{3, -1, 4, -1, 5, 9, -2, 6, 5, 3, 5},
	} {
		for _, leaving := range waysToLeave(numbers) {
			throughout(t, made(t), numbers, leaving)
		}
	}
}

func TestP7_1OfEqualNumbersOneIsTaken(t *testing.T) {
	r := made(t, 2, 5, 2, 9, 5, 5)
	taken(t, r, 5, true)
	has(t, r, 2, 2, 5, 5, 9)
	taken(t, r, 2, true)
	has(t, r, 2, 5, 5, 9)
	taken(t, r, 5, true)
	has(t, r, 2, 5, 9)
	taken(t, r, 5, true)
	has(t, r, 2, 9)
	taken(t, r, 5, false)
	has(t, r, 2, 9)
	r.Put(5)
	has(t, r, 2, 5, 9)
}

func TestP7_1TakeOfTheLeastTheGreatestAndTheMiddle(t *testing.T) {
	for _, x := range []struct {
		v    int64
		left []int64
	}{
		{10, []int64{20, 30, 40, 50}},
		{30, []int64{10, 20, 40, 50}},
		{50, []int64{10, 20, 30, 40}},
	} {
		r := made(t, 30, 10, 50, 20, 40)
		taken(t, r, x.v, true)
		has(t, r, x.left...)
		taken(t, r, x.v, false)
		has(t, r, x.left...)
	}
}

func TestP7_1TakeOfOneThatIsNotThere(t *testing.T) {
	r := made(t, 30, 10, 50, 20, 40)
	for _, v := range []int64{math.MinInt64, -10, 0, 9, 11, 25, 29, 31, 49, 51, 1000, math.MaxInt64} {
		taken(t, r, v, false)
		has(t, r, 10, 20, 30, 40, 50)
	}
}

func TestP7_1EndsOfInt64(t *testing.T) {
	const low, high = math.MinInt64, math.MaxInt64
	r := made(t, high, low, 0, high, low)
	has(t, r, low, low, 0, high, high)
	taken(t, r, high-1, false)
	taken(t, r, low+1, false)
	taken(t, r, high, true)
	has(t, r, low, low, 0, high)
	taken(t, r, low, true)
	has(t, r, low, 0, high)
	numbers := []int64{low, high, low + 1, high - 1, -1, 0, 1, low, high}
	for _, leaving := range waysToLeave(numbers) {
		throughout(t, made(t), numbers, leaving)
	}
}

func TestP7_1TakenAllAndPutAnewManyTimes(t *testing.T) {
	r := made(t)
	numbers := []int64{4, -3, 4, 12, 0, 7, 7, 7, -100}
	for round := range 50 {
		numbers = append(numbers[1:], int64(round*37%23))
		for _, leaving := range waysToLeave(numbers) {
			throughout(t, r, numbers, leaving)
			taken(t, r, numbers[0], false)
		}
	}
}

// All short runs of calls: each step puts or takes one of a few numbers.
func TestP7_1AllShortRuns(t *testing.T) {
	const steps, numbers = 6, 3
	runs := 1
	for range steps {
		runs *= 2 * numbers
	}
	for run := range runs {
		r, plain := New(), []int64{}
		for rest, step := run, 0; step < steps; step++ {
			v := int64(rest % numbers)
			rest /= numbers
			if rest%2 == 0 {
				r.Put(v)
				plain = append(plain, v)
			} else {
				left, there := without(plain, v)
				taken(t, r, v, there)
				plain = left
			}
			rest /= 2
			if list := r.List(); !slices.Equal(list, sorted(plain)) {
				t.Fatal(run, step, list, plain)
			}
		}
		has(t, r, sorted(plain)...)
	}
}

func TestP7_2At(t *testing.T) {
	r := made(t, 8, -4, 8, 0)
	for i, want := range []int64{-4, 0, 8, 8} {
		at(t, r, i, want, true)
	}
	for _, i := range []int{-1, -4, 4, 5, 1000000, math.MinInt, math.MaxInt} {
		at(t, r, i, 0, false)
	}
	has(t, r, -4, 0, 8, 8)
}

func TestP7_2ListIsNewMemory(t *testing.T) {
	for count := range int64(20) {
		r, want := made(t), []int64{}
		for n := range count {
			r.Put(n)
			want = append(want, n)
		}
		a, b := r.List(), r.List()
		for i := range a[:cap(a)] {
			a[:cap(a)][i] = -1
		}
		_ = append(a, -2)
		_ = append(a[:len(a)/2], -3, -4)
		has(t, r, want...)
		if !slices.Equal(b, want) {
			t.Fatal("two lists share memory:", b)
		}
		more := append(r.List(), 77)
		r.Put(count)
		has(t, r, append(want, count)...)
		if !slices.Equal(more, append(want, 77)) {
			t.Fatal("what was put more onto a list:", more)
		}
	}
}

func TestP7_2ListStaysWhenTheNumbersChange(t *testing.T) {
	changes := []func(*Rank){
		func(r *Rank) { r.Put(100) },
		func(r *Rank) { r.Put(-100) },
		func(r *Rank) { r.Put(2) },
		func(r *Rank) { r.Take(1) },
		func(r *Rank) { r.Take(2) },
		func(r *Rank) { r.Take(8) },
		func(r *Rank) {
			for _, v := range r.List() {
				r.Take(v)
			}
		},
		func(r *Rank) {
			for _, v := range r.List() {
				r.Take(v)
				r.Put(v * 10)
			}
		},
	}
	for _, change := range changes {
		r := made(t, 4, 1, 2, 2, 3, 8)
		list := r.List()
		change(r)
		if !slices.Equal(list, []int64{1, 2, 2, 3, 4, 8}) {
			t.Error("a list hangs on its numbers:", list)
		}
		list = r.List()
		copied := slices.Clone(list)
		change(r)
		if !slices.Equal(list, copied) {
			t.Error("a list hangs on its numbers:", list, copied)
		}
	}
}

func TestP7_3NoNumbersAndNoPercent(t *testing.T) {
	wrong := []int64{0, -1, -50000000, -100000000, math.MinInt64, 100000001, 200000000, math.MaxInt64}
	for _, percent := range append(wrong, 1, 50000000, 100000000) {
		by(t, made(t), percent, 0, false)
	}
	for _, percent := range wrong {
		by(t, made(t, 5), percent, 0, false)
		by(t, made(t, 5, 6, 7, 8), percent, 0, false)
	}
	r := made(t, 5)
	taken(t, r, 5, true)
	by(t, r, 50000000, 0, false)
}

// Wrong percents which, times the number of numbers, would wrap round to a right product.
func TestP7_3PercentsThatWrapRound(t *testing.T) {
	r := made(t, 1, 2, 3)
	by(t, r, 6148914691236517206, 0, false)
	by(t, r, -6148914691236517205, 0, false)
	r.Put(4)
	for _, percent := range []int64{1, 1000000, 100000000} {
		by(t, r, 1<<62+percent, 0, false)
		by(t, r, -1<<62+percent, 0, false)
		by(t, r, -1<<63+percent, 0, false)
	}
}

func TestP7_3NearestRank(t *testing.T) {
	four := []int64{10, 20, 30, 40}
	for _, x := range []struct {
		numbers       []int64
		percent, want int64
	}{
		{[]int64{7}, 1, 7},
		{[]int64{7}, 50000000, 7},
		{[]int64{7}, 100000000, 7},
		{four, 1, 10},
		{four, 24999999, 10},
		{four, 25000000, 10},
		{four, 25000001, 20},
		{four, 49999999, 20},
		{four, 50000000, 20},
		{four, 50000001, 30},
		{four, 75000000, 30},
		{four, 75000001, 40},
		{four, 99999999, 40},
		{four, 100000000, 40},
		{[]int64{1, 2, 3}, 66666666, 2},
		{[]int64{1, 2, 3}, 66666667, 3},
		{[]int64{5, 5, 5, 6}, 75000000, 5},
		{[]int64{5, 5, 5, 6}, 75000001, 6},
		{[]int64{math.MinInt64, math.MaxInt64}, 50000000, math.MinInt64},
		{[]int64{math.MinInt64, math.MaxInt64}, 50000001, math.MaxInt64},
	} {
		by(t, made(t, x.numbers...), x.percent, x.want, true)
	}
}

// The number with the number i is i: what By answers is its rank less 1.
func TestP7_3EveryRank(t *testing.T) {
	r := made(t)
	for count := int64(1); count <= 300; count++ {
		r.Put(count - 1)
		for k := int64(1); k <= count; k++ {
			down := k * 100000000 / count
			by(t, r, down, k-1, true)
			if down < 100000000 {
				by(t, r, down+1, k, true)
			}
		}
	}
}

// The rank of many numbers: percent times their number is far above 2^32 there.
func TestP7_3ManyNumbers(t *testing.T) {
	const count = 1 << 20
	r := made(t)
	for n := range int64(count) {
		r.Put(n)
	}
	for _, x := range []struct{ percent, want int64 }{
		{1, 0}, {95, 0}, {96, 1}, {25000000, count/4 - 1}, {25000001, count / 4}, {50000000, count/2 - 1},
		{50000001, count / 2}, {99999999, count - 1}, {99999904, count - 2}, {100000000, count - 1},
	} {
		by(t, r, x.percent, x.want, true)
	}
	random := rand.New(rand.NewSource(73))
	rising := r.List()
	for range 1000 {
		percent := 1 + random.Int63n(100000000)
		want, there := byOf(rising, percent)
		by(t, r, percent, want, there)
	}
}

func TestP7_4Nil(t *testing.T) {
	var r *Rank
	for range 3 {
		has(t, r)
		for _, v := range []int64{3, 0, math.MinInt64, math.MaxInt64} {
			r.Put(v)
			has(t, r)
			taken(t, r, v, false)
		}
		for _, percent := range percents(1) {
			by(t, r, percent, 0, false)
		}
	}
}

func TestP7_4Zero(t *testing.T) {
	var empty Rank
	has(t, &empty)
	taken(t, &empty, 0, false)
	has(t, &empty)
	numbers := []int64{5, 2, 4, 4, 3, 9, -1, 7}
	for _, leaving := range waysToLeave(numbers) {
		var r Rank
		throughout(t, &r, numbers, leaving)
	}
	zero := new(Rank)
	for _, v := range []int64{5, 1, 3} {
		zero.Put(v)
	}
	has(t, zero, 1, 3, 5)
}

// longRun makes any run of calls on a Rank and on a plain list, and looks at each step (or, of many
// numbers, at some) whether they agree. More come than leave, and the other way, by turns.
func longRun(t *testing.T, random *rand.Rand, steps, turn int, next func() int64) {
	t.Helper()
	r, plain := made(t), []int64{}
	for step := range steps {
		v := next()
		if random.Intn(5) < 1+2*(step/turn%2) {
			if len(plain) > 0 && random.Intn(4) > 0 {
				v = plain[random.Intn(len(plain))]
			}
			left, there := without(plain, v)
			taken(t, r, v, there)
			plain = left
		} else {
			r.Put(v)
			plain = append(plain, v)
		}
		agree(t, random, r, sorted(plain))
		if len(plain) < 10 || step%100 == 0 {
			has(t, r, sorted(plain)...)
		}
	}
}

// agree asks some of the numbers, by any place and by any percent.
func agree(t *testing.T, random *rand.Rand, r *Rank, rising []int64) {
	t.Helper()
	if r.Len() != len(rising) || !slices.Equal(r.List(), rising) {
		t.Fatal(r.Len(), r.List(), rising)
	}
	i := random.Intn(len(rising)+3) - 1
	if i >= 0 && i < len(rising) {
		at(t, r, i, rising[i], true)
	} else {
		at(t, r, i, 0, false)
	}
	percent := random.Int63n(100000010) - 4
	want, there := byOf(rising, percent)
	by(t, r, percent, want, there)
}

func TestP7AgreesWithAPlainList(t *testing.T) {
	random := rand.New(rand.NewSource(7))
	for run := range 60 {
		wide := int64(1) << (run % 20)
		walk := int64(0)
		longRun(t, random, 500, 1+random.Intn(100), func() int64 { return random.Int63n(wide) - wide/2 })
		longRun(t, random, 500, 1+random.Intn(100), func() int64 { return int64(random.Uint64()) })
		longRun(t, random, 500, 1+random.Intn(100), func() int64 {
			walk += random.Int63n(7) - 3 + int64(run%3) - 1 // it wanders, and rises or falls on the whole
			return walk
		})
	}
	longRun(t, random, 10000, 700, func() int64 { return random.Int63n(1000) })
}

// A Rank of some length through which very many numbers go takes no more memory than that length.
func TestP7VeryManyGoThrough(t *testing.T) {
	const length, steps = 4096, 1 << 19
	for _, next := range []func(n int64) int64{
		func(n int64) int64 { return n },
		func(n int64) int64 { return -n },
		func(n int64) int64 { return n * n % 9973 },
		func(int64) int64 { return 5 },
	} {
		r := made(t)
		for n := range int64(steps) {
			r.Put(next(n))
			if r.Len() > length {
				taken(t, r, next(n-length), true)
			}
		}
		want := []int64{}
		for n := range int64(length) {
			want = append(want, next(steps-length+n))
		}
		if !slices.Equal(r.List(), sorted(want)) {
			t.Fatal("List")
		}
		if cap(r.list) > 4*length {
			t.Fatal("room:", cap(r.list))
		}
	}
}

// A Rank that had many numbers once doesn't keep their room.
func TestP7RoomIsGivenBack(t *testing.T) {
	r := made(t)
	for n := range int64(100000) {
		r.Put(n)
	}
	for n := int64(99999); n > 2; n-- {
		taken(t, r, n, true)
	}
	has(t, r, 0, 1, 2)
	if cap(r.list) > 16 {
		t.Error("room for three:", cap(r.list))
	}
}

// R7: Ranks don't hang on one another.
func TestP7TwoRanks(t *testing.T) {
	a, b := made(t, 1, 2, 3), made(t, 1, 2, 3)
	taken(t, a, 2, true)
	a.Put(0)
	has(t, a, 0, 1, 3)
	has(t, b, 1, 2, 3)
	b.Put(2)
	taken(t, b, 3, true)
	has(t, a, 0, 1, 3)
	has(t, b, 1, 2, 2)
}

func TestCallsOnlyApi(t *testing.T) {
	files, err := filepath.Glob("*.go")
	if err != nil || len(files) == 0 {
		t.Fatal(files, err)
	}
	for _, name := range files {
		if strings.HasSuffix(name, "_test.go") {
			continue
		}
		file, err := parser.ParseFile(token.NewFileSet(), name, nil, parser.ImportsOnly)
		if err != nil {
			t.Fatal(err)
		}
		for _, spec := range file.Imports {
			path, _ := strconv.Unquote(spec.Path.Value)
			if strings.HasPrefix(path, "capstan/") && path != "capstan/api" {
				t.Errorf("%s imports %s", name, path)
			}
		}
	}
}
