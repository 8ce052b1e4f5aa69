package ring

import (
	"go/parser"
	"go/token"
	"iter"
	"math"
	"math/rand"
	"path/filepath"
	"slices"
	"strconv"
	"strings"
	"testing"

	"capstan/api"
)

// made makes a ring of a room that is let in, with the values pushed.
func made[T any](t *testing.T, room int, values ...T) *Ring[T] {
	t.Helper()
	r, e := New[T](room)
	if r == nil || e != api.OK {
		t.Fatal("New:", room, r, e)
	}
	for _, v := range values {
		r.Push(v)
	}
	return r
}

// numbers answers first, first + 1, .. below end.
func numbers(first, end int) []int {
	list := []int{}
	for n := first; n < end; n++ {
		list = append(list, n)
	}
	return list
}

// pair is a place and what stood there, as Each tells it.
type pair[T any] struct {
	i int
	v T
}

// gone goes over seq, to its end.
func gone[T any](seq iter.Seq2[int, T]) []pair[T] {
	list := []pair[T]{}
	for i, v := range seq {
		list = append(list, pair[T]{i, v})
	}
	return list
}

// counted answers the values with their numbers.
func counted[T any](values []T) []pair[T] {
	list := []pair[T]{}
	for i, v := range values {
		list = append(list, pair[T]{i, v})
	}
	return list
}

// is asks all that tells of a ring whether just the values are in it.
func is[T comparable](t *testing.T, r *Ring[T], room int, values ...T) {
	t.Helper()
	var zero T
	if r.Room() != room || r.Len() != len(values) {
		t.Fatal("room and length:", r.Room(), r.Len(), "wanted", room, len(values))
	}
	if list := r.List(); !slices.Equal(list, values) {
		t.Fatal("List:", list, "wanted", values)
	}
	if list := gone(r.Each()); !slices.Equal(list, counted(values)) {
		t.Fatal("Each:", list, "wanted", values)
	}
	for i, want := range values {
		if v, ok := r.At(i); v != want || !ok {
			t.Fatal("At:", i, v, ok, "wanted", want)
		}
	}
	for _, i := range []int{-1, -2, -len(values), -room - 1, len(values), len(values) + 1, room, room + 1, room + len(values), math.MinInt, math.MinInt + 1, math.MaxInt, math.MaxInt - 1} {
		if i >= 0 && i < len(values) {
			continue
		}
		if v, ok := r.At(i); v != zero || ok {
			t.Fatal("At beyond what is there:", i, v, ok)
		}
	}
}

// pushed pushes v and looks at what is driven out.
func pushed[T comparable](t *testing.T, r *Ring[T], v, old T, out bool) {
	t.Helper()
	if o, ok := r.Push(v); o != old || ok != out {
		t.Fatal("Push:", v, "drove out", o, ok, "wanted", old, out)
	}
}

// dropped drops and looks at what has left.
func dropped[T comparable](t *testing.T, r *Ring[T], old T, out bool) {
	t.Helper()
	if o, ok := r.Drop(); o != old || ok != out {
		t.Fatal("Drop:", o, ok, "wanted", old, out)
	}
}

func TestP5Examples(t *testing.T) {
	r := made[int](t, 2)
	pushed(t, r, 1, 0, false)
	pushed(t, r, 2, 0, false)
	pushed(t, r, 3, 1, true)
	is(t, r, 2, 2, 3)
	dropped(t, r, 2, true)
	dropped(t, r, 3, true)
	dropped(t, r, 0, false)
	for _, room := range []int{0, 4097} {
		if r, e := New[int](room); r != nil || e != api.ErrRange {
			t.Error(room, r, e)
		}
	}
}

func TestP5_1NewRefuses(t *testing.T) {
	for _, room := range []int{0, -1, -2, -api.MaxSamples, api.MaxSamples + 1, api.MaxSamples + 2, 2 * api.MaxSamples,
		math.MinInt, math.MinInt + 1, math.MaxInt, math.MaxInt - 1, math.MinInt32, math.MaxInt32} {
		if r, e := New[int](room); r != nil || e != api.ErrRange {
			t.Error("numbers:", room, r, e)
		}
		if r, e := New[string](room); r != nil || e != api.ErrRange {
			t.Error("texts:", room, r, e)
		}
		if r, e := New[struct{}](room); r != nil || e != api.ErrRange {
			t.Error("of no size:", room, r, e)
		}
	}
}

func TestP5_1NewOfEachRoom(t *testing.T) {
	for room := 1; room <= api.MaxSamples; room++ {
		is(t, made[int](t, room), room)
	}
}

func TestP5_1RoomStaysAndLenCounts(t *testing.T) {
	for _, room := range []int{1, 2, 3, 7, 8, 64, 1000, api.MaxSamples - 1, api.MaxSamples} {
		r := made[int](t, room)
		for n := range 2*room + 3 {
			if r.Len() != min(n, room) || r.Room() != room {
				t.Fatal(room, n, r.Len(), r.Room())
			}
			r.Push(n)
		}
		for n := room; n > 0; n-- {
			if r.Len() != n || r.Room() != room {
				t.Fatal(room, n, r.Len(), r.Room())
			}
			r.Drop()
		}
		is(t, r, room)
	}
}

func TestP5_2PushDrivesOutTheOldest(t *testing.T) {
	for _, room := range []int{1, 2, 3, 4, 5, 15, 16, 17, 100} {
		r := made[int](t, room)
		for n := range 5*room + 2 {
			if n < room {
				pushed(t, r, n+1, 0, false)
			} else {
				pushed(t, r, n+1, n+1-room, true)
			}
			is(t, r, room, numbers(max(1, n+2-room), n+2)...)
		}
	}
}

func TestP5_2PushAtTheGreatestRoom(t *testing.T) {
	r := made[int](t, api.MaxSamples)
	for n := range api.MaxSamples {
		pushed(t, r, n+1, 0, false)
	}
	is(t, r, api.MaxSamples, numbers(1, api.MaxSamples+1)...)
	for n := range 2*api.MaxSamples + 5 {
		pushed(t, r, api.MaxSamples+n+1, n+1, true)
	}
	is(t, r, api.MaxSamples, numbers(2*api.MaxSamples+6, 3*api.MaxSamples+6)...)
}

func TestP5_2PushOfRoomOne(t *testing.T) {
	r := made[string](t, 1)
	pushed(t, r, "a", "", false)
	pushed(t, r, "b", "a", true)
	pushed(t, r, "", "b", true)
	is(t, r, 1, "")
	pushed(t, r, "c", "", true)
	dropped(t, r, "c", true)
	dropped(t, r, "", false)
	pushed(t, r, "d", "", false)
	is(t, r, 1, "d")
}

func TestP5_3DropAnswersTheOldest(t *testing.T) {
	for _, room := range []int{1, 2, 3, 10, 33} {
		for put := range 3*room + 1 {
			r := made(t, room, numbers(1, put+1)...)
			for n := max(0, put-room); n < put; n++ {
				is(t, r, room, numbers(n+1, put+1)...)
				dropped(t, r, n+1, true)
			}
			is(t, r, room)
			for range 3 {
				dropped(t, r, 0, false)
			}
			is(t, r, room)
			pushed(t, r, 7, 0, false)
			is(t, r, room, 7)
		}
	}
}

func TestP5_3FullAndRunEmptyManyTimes(t *testing.T) {
	for _, room := range []int{1, 2, 3, 5, 8, 21} {
		r := made[int](t, room)
		n := 0
		for round := range 40 {
			beyond := round % (room + 2) // so that a round begins at each of the slots
			for k := range room + beyond {
				n++
				if k < room {
					pushed(t, r, n, 0, false)
				} else {
					pushed(t, r, n, n-room, true)
				}
			}
			is(t, r, room, numbers(n+1-room, n+1)...)
			for k := range room {
				dropped(t, r, n+1-room+k, true)
			}
			dropped(t, r, 0, false)
			is(t, r, room)
		}
	}
}

// A zero value that is in the ring is told by true; the one that stands for nothing by false.
func TestP5_3ZeroValuesAreValues(t *testing.T) {
	r := made(t, 3, 0, 0, 0)
	is(t, r, 3, 0, 0, 0)
	pushed(t, r, 0, 0, true)
	for range 3 {
		dropped(t, r, 0, true)
	}
	dropped(t, r, 0, false)
	pushed(t, r, 0, 0, false)
	is(t, r, 3, 0)
}

func TestP5_4OtherTypesThanNumbers(t *testing.T) {
	texts := made(t, 2, "a", "", "\xff\x00")
	is(t, texts, 2, "", "\xff\x00")
	dropped(t, texts, "", true)
	dropped(t, texts, "\xff\x00", true)
	dropped(t, texts, "", false)

	samples := made(t, 2, api.Sample{Time: math.MinInt64, Value: math.MaxInt64}, api.Sample{}, api.Sample{Time: 1})
	is(t, samples, 2, api.Sample{}, api.Sample{Time: 1})
	dropped(t, samples, api.Sample{}, true)
	pushed(t, samples, api.Sample{Value: 3}, api.Sample{}, false)
	pushed(t, samples, api.Sample{Value: 4}, api.Sample{Time: 1}, true)

	empty := made[struct{}](t, api.MaxSamples)
	for range api.MaxSamples {
		pushed(t, empty, struct{}{}, struct{}{}, false)
	}
	pushed(t, empty, struct{}{}, struct{}{}, true)
	if empty.Len() != api.MaxSamples || len(empty.List()) != api.MaxSamples || len(gone(empty.Each())) != api.MaxSamples {
		t.Error(empty.Len())
	}

	one, two := 1, 2
	pointers := made(t, 2, &one, nil, &two)
	is(t, pointers, 2, nil, &two)
	dropped(t, pointers, nil, true)
	dropped(t, pointers, &two, true)
	dropped(t, pointers, nil, false)

	anything := made[any](t, 3, 1, nil, "x", api.OK)
	is[any](t, anything, 3, nil, "x", api.OK)
	dropped[any](t, anything, nil, true)

	arrays := made(t, 1, [2]string{"a", "b"})
	pushed(t, arrays, [2]string{}, [2]string{"a", "b"}, true)
	is(t, arrays, 1, [2]string{})
}

// Values that can't be held against each other: lists, functions.
func TestP5_4ListsAndFunctions(t *testing.T) {
	lists := made(t, 2, []int{1}, nil, []int{2, 3})
	if v, ok := lists.At(0); v != nil || !ok {
		t.Error(v, ok)
	}
	if v, ok := lists.Push([]int{4}); v != nil || !ok {
		t.Error(v, ok)
	}
	if v, ok := lists.Drop(); !slices.Equal(v, []int{2, 3}) || !ok {
		t.Error(v, ok)
	}
	if v, ok := lists.At(1); v != nil || ok {
		t.Error(v, ok)
	}
	calls := made(t, 2, func() int { return 1 }, func() int { return 2 }, func() int { return 3 })
	for i, f := range calls.Each() {
		if f() != i+2 {
			t.Error(i, f())
		}
	}
}

func TestP5_4ListIsNewMemory(t *testing.T) {
	for _, put := range []int{1, 2, 3, 4, 5, 9} { // the slots are in order, and gone round
		r := made(t, 4, numbers(0, put)...)
		want := numbers(max(0, put-4), put)
		a, b := r.List(), r.List()
		for i := range a {
			a[i] = -1
		}
		for i := range a[:cap(a)] {
			a[:cap(a)][i] = -2
		}
		_ = append(a, -3)
		is(t, r, 4, want...)
		if !slices.Equal(b, want) {
			t.Error("two lists share memory:", b)
		}
		for n := range 9 {
			r.Push(100 + n)
		}
		for range 9 {
			r.Drop()
		}
		if !slices.Equal(b, want) {
			t.Error("a list hangs on its ring:", b)
		}
	}
}

// changes are what may be done to a ring behind a call of Each.
func changes() []func(*Ring[int]) {
	return []func(*Ring[int]){
		func(r *Ring[int]) {},
		func(r *Ring[int]) { r.Drop() },
		func(r *Ring[int]) { r.Push(77) },
		func(r *Ring[int]) {
			for n := range 3 * r.Room() {
				r.Push(80 + n)
			}
		},
		func(r *Ring[int]) {
			for r.Len() > 0 {
				r.Drop()
			}
		},
		func(r *Ring[int]) {
			for r.Len() > 0 {
				r.Drop()
			}
			r.Push(90)
		},
	}
}

func TestP5_4EachGoesOverWhatWasThereAtItsCall(t *testing.T) {
	for _, room := range []int{1, 2, 5, 12} {
		for put := range 2*room + 2 {
			want := counted(numbers(max(0, put-room), put))
			for k, change := range changes() {
				r := made(t, room, numbers(0, put)...)
				seq := r.Each()
				change(r)
				if got := gone(seq); !slices.Equal(got, want) {
					t.Fatal("changed ahead of going over:", room, put, k, got)
				}
				change(r)
				if got := gone(seq); !slices.Equal(got, want) {
					t.Fatal("gone over again:", room, put, k, got)
				}
				r = made(t, room, numbers(0, put)...)
				got := []pair[int]{}
				for i, v := range r.Each() {
					got = append(got, pair[int]{i, v})
					change(r)
				}
				if !slices.Equal(got, want) {
					t.Fatal("changed while gone over:", room, put, k, got)
				}
			}
		}
	}
}

func TestP5_4EachOfAnEmptyRingStaysEmpty(t *testing.T) {
	r := made[int](t, 3)
	seq := r.Each()
	r.Push(1)
	if got := gone(seq); len(got) != 0 {
		t.Error(got)
	}
	if got := gone(r.Each()); !slices.Equal(got, []pair[int]{{0, 1}}) {
		t.Error(got)
	}
}

func TestP5_4EachMayBeLeftAndGoneOverAgain(t *testing.T) {
	const room = 6
	r := made(t, room, numbers(0, 9)...)
	want := counted(numbers(3, 9))
	seq := r.Each()
	for leave := range room + 1 { // at room it is never left
		asked := []pair[int]{}
		for i, v := range seq {
			asked = append(asked, pair[int]{i, v})
			if i == leave {
				break
			}
		}
		if !slices.Equal(asked, want[:min(leave+1, room)]) {
			t.Error("left at", leave, asked)
		}
		calls := 0
		seq(func(i, v int) bool { // none is asked behind the one that says no
			calls++
			return i < leave
		})
		if calls != min(leave+1, room) {
			t.Error("asked behind the end:", leave, calls)
		}
	}
	if got := gone(seq); !slices.Equal(got, want) {
		t.Error("again:", got)
	}
	is(t, r, room, numbers(3, 9)...)
}

// Two goings over of one Each, one within the other, and by pulling.
func TestP5_4EachWithinItself(t *testing.T) {
	r := made(t, 3, 4, 5, 6, 7)
	seq := r.Each()
	got := []int{}
	for _, a := range seq {
		r.Drop()
		for i, b := range seq {
			got = append(got, a*10+b)
			if i == 1 {
				break
			}
		}
	}
	if !slices.Equal(got, []int{55, 56, 65, 66, 75, 76}) {
		t.Error(got)
	}
	next, stop := iter.Pull2(seq)
	defer stop()
	if i, v, ok := next(); i != 0 || v != 5 || !ok {
		t.Error(i, v, ok)
	}
}

// roomless looks at each of the functions of a ring without room, again and again.
func roomless[T comparable](t *testing.T, r *Ring[T], v T) {
	t.Helper()
	var zero T
	for range 3 {
		is(t, r, 0)
		pushed(t, r, v, zero, false)
		is(t, r, 0)
		dropped(t, r, zero, false)
		pushed(t, r, zero, zero, false)
		r.Each()(func(int, T) bool {
			t.Error("Each has something")
			return true
		})
		for _, i := range []int{0, 1, -1, math.MinInt, math.MaxInt} {
			if v, ok := r.At(i); v != zero || ok {
				t.Error("At:", i, v, ok)
			}
		}
	}
}

func TestP5_5NilAndZero(t *testing.T) {
	roomless(t, nil, 7)
	roomless(t, nil, "x")
	roomless(t, nil, api.Sample{Time: 1, Value: 2})
	roomless(t, nil, struct{}{})
	var of Ring[int]
	roomless(t, &of, 7)
	roomless(t, &Ring[string]{}, "x")
	roomless(t, new(Ring[api.Sample]), api.Sample{Time: 1, Value: 2})
	roomless(t, &Ring[any]{}, any(3))
	refused, _ := New[int](0)
	roomless(t, refused, 7)
}

// Any run of calls, held against a plain list.
func TestP5AgreesWithAPlainList(t *testing.T) {
	random := rand.New(rand.NewSource(5))
	for run := range 300 {
		room := 1 + random.Intn(20)
		if run%50 == 0 {
			room = api.MaxSamples - random.Intn(3)
		}
		r := made[int](t, room)
		plain := []int{}
		for step := range 10 * room {
			if random.Intn(5) < 1+2*(step/room%2) { // more come in than go out, and the other way, by turns
				if len(plain) == 0 {
					dropped(t, r, 0, false)
				} else {
					dropped(t, r, plain[0], true)
					plain = plain[1:]
				}
			} else {
				v := random.Int()
				plain = append(plain, v)
				if len(plain) > room {
					pushed(t, r, v, plain[0], true)
					plain = plain[1:]
				} else {
					pushed(t, r, v, 0, false)
				}
			}
			if room < 100 || step%1000 == 0 {
				is(t, r, room, plain...)
			}
			onlyWhatIsInIsKept(t, r)
		}
		is(t, r, room, plain...)
	}
}

// onlyWhatIsInIsKept looks at the slots: there are no more than the room, and those beside the
// ring's are zero.
func onlyWhatIsInIsKept(t *testing.T, r *Ring[int]) {
	t.Helper()
	if len(r.slots) > r.room {
		t.Fatal("more slots than room:", len(r.slots), r.room)
	}
	for n := r.count; n < len(r.slots); n++ {
		if kept := r.slots[r.slot(n)]; kept != 0 {
			t.Fatal("kept though it has left:", kept)
		}
	}
}

// R7: rings don't hang on one another.
func TestP5TwoRings(t *testing.T) {
	a, b := made[int](t, 3), made[int](t, 3)
	for n := range 10 {
		a.Push(n)
		b.Push(-n)
	}
	is(t, a, 3, 7, 8, 9)
	is(t, b, 3, -7, -8, -9)
	a.Drop()
	is(t, b, 3, -7, -8, -9)
	b.Drop()
	b.Push(5)
	is(t, a, 3, 8, 9)
}

func TestCallsOnlyApi(t *testing.T) {
	files, err := filepath.Glob("*.go")
	if err != nil || len(files) == 0 {
		t.Fatal(files, err)
	}
	for _, name := range files {
		if strings.HasSuffix(name, "_test.go") {
			continue
		}
		file, err := parser.ParseFile(token.NewFileSet(), name, nil, parser.ImportsOnly)
		if err != nil {
			t.Fatal(err)
		}
		for _, spec := range file.Imports {
			path, _ := strconv.Unquote(spec.Path.Value)
			if strings.HasPrefix(path, "capstan/") && path != "capstan/api" {
				t.Errorf("%s imports %s", name, path)
			}
		}
	}
}
