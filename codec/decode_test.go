package codec

import (
	"slices"
	"testing"

	"capstan/api"
)

func TestP22_2TheExamples(t *testing.T) {
	b, _ := Encode(small())
	decodes(t, b, small())
	noProgram(t, b[:80], api.ErrCode)
	noProgram(t, joined(b, []byte{0}), api.ErrCode)
	noProgram(t, changed(b, 4, 0xff), api.ErrCode)
}

func TestP22_2Full(t *testing.T) {
	decodes(t, fullBytes(), full())
}

func TestP22_2Long(t *testing.T) {
	b, _ := Encode(largest())
	for _, begin := range [][]byte{nil, b, fullBytes(), []byte("cps2")} {
		long := make([]byte, 1048577, 1048600)
		copy(long, begin)
		noProgram(t, long, api.ErrLong)
		noProgram(t, long[:1048600], api.ErrLong)
		noProgram(t, make([]byte, 5000000), api.ErrLong)
		noProgram(t, long[:1048576], api.ErrCode)
		noProgram(t, long[:1048575], api.ErrCode)
	}
	if len(b) > api.MaxBytes {
		t.Error(len(b))
	}
	decodes(t, b, largest())
}

// The rest of the bytes stands in the room behind those that are there; it is none of them.
func TestP22_2Missing(t *testing.T) {
	for _, p := range []api.Program{{}, small(), one(), full()} {
		b, _ := Encode(p)
		for n := range b {
			noProgram(t, b[:n], api.ErrCode)
			noProgram(t, slices.Clone(b[:n]), api.ErrCode)
			noProgram(t, b[n+1:], api.ErrCode)
			noProgram(t, joined(b[:n], b[n+1:]), api.ErrCode)
		}
	}
	noProgram(t, nil, api.ErrCode)
	noProgram(t, []byte{}, api.ErrCode)
	b, _ := Encode(largest())
	for _, n := range []int{4, 56, 60, 61, 100000, len(b) - 9, len(b) - 1} {
		noProgram(t, b[:n], api.ErrCode)
	}
}

func TestP22_2TooMany(t *testing.T) {
	for _, p := range []api.Program{{}, small(), one(), full(), largest()} {
		b, _ := Encode(p)
		for _, more := range [][]byte{{0}, {1}, {0xff}, {api.IHold}, make([]byte, 4), make([]byte, 8), make([]byte, 9), []byte("cps1"), b} {
			noProgram(t, joined(b, more), api.ErrCode)
			noProgram(t, joined(more, b), api.ErrCode)
		}
	}
}

func TestP22_2TheFirstFour(t *testing.T) {
	b := fullBytes()
	for at := range 4 {
		for n := range 256 {
			other := changed(b, at, byte(n))
			if byte(n) == b[at] {
				decodes(t, other, full())
			} else {
				noProgram(t, other, api.ErrCode)
			}
		}
	}
	for _, text := range []string{"CPS1", "1spc", "cps\x00", "\x00cps", "cps2", "cp1s"} {
		noProgram(t, changed(b, 0, []byte(text)...), api.ErrCode)
	}
	noProgram(t, []byte("cps1"), api.ErrCode)
}

func TestP22_2FourBytesThatAreTooMuch(t *testing.T) {
	b, _ := Encode(one())
	places := []int{56, 68, 96, 140} // the counts
	for _, f := range fourFields() {
		places = append(places, f.at)
	}
	for _, at := range places {
		for _, text := range []string{"80000000", "80000001", "80000100", "ffffffff", "fffffffe", "c0000000"} {
			noProgram(t, changed(b, at, unhex(text)...), api.ErrCode)
		}
	}
	// In a later window too.
	b = fullBytes()
	for _, at := range []int{96, 100, 120, 124, 144, 148} {
		noProgram(t, changed(b, at, 0x80), api.ErrCode)
		noProgram(t, changed(b, at, 0xff), api.ErrCode)
		if p, errno := Decode(changed(b, at, 0x7f)); errno != api.OK || p.Wins[(at-96)/24].Metric>>24 != 0x7f && p.Wins[(at-96)/24].Agg>>24 != 0x7f {
			t.Error(at, brief(p), errno)
		}
	}
}

// A count says how many elements there are, not more and not fewer.
func TestP22_2Counts(t *testing.T) {
	for _, x := range []struct{ at, size, limit int }{{56, 8, 16384}, {60, 24, 256}, {64, 40, 256}, {68, 9, 16384}} {
		empty, _ := Encode(api.Program{})
		with := func(count, elements int) []byte {
			n := []byte{byte(count >> 24), byte(count >> 16), byte(count >> 8), byte(count)}
			return joined(empty[:x.at], n, make([]byte, elements*x.size), empty[x.at+4:])
		}
		for _, count := range []int{0, 1, 2, 3, 255, 256, x.limit - 1, x.limit} {
			p, errno := Decode(with(count, count))
			if errno != api.OK || len(p.Consts)+len(p.Wins)+len(p.Crons)+len(p.Code) != count {
				t.Errorf("%d at %d: %s, %d", count, x.at, brief(p), errno)
			}
			noProgram(t, with(count+1, count), api.ErrCode)
			if count > 0 {
				noProgram(t, with(count-1, count), api.ErrCode)
			}
			if x.at != 68 {
				noProgram(t, with(count+256, count), api.ErrCode)
			}
		}
		// Above the limit, be the elements there or not.
		for _, count := range []int{x.limit + 1, x.limit + 2, 20000} {
			noProgram(t, with(count, count), api.ErrCode)
			noProgram(t, with(count, 0), api.ErrCode)
			noProgram(t, with(count, x.limit), api.ErrCode)
		}
		for _, count := range []int{1 << 16, 1 << 24, 1<<31 - 1, 1 << 31, 1<<32 - 1} {
			noProgram(t, with(count, 0), api.ErrCode)
			noProgram(t, with(count, 3), api.ErrCode)
		}
	}
}

// Each byte of a program, with each value that it may have, held against the plain reading.
func TestP22_2EachByte(t *testing.T) {
	for _, p := range []api.Program{{}, small(), one(), full()} {
		b, _ := Encode(p)
		for at := range b {
			for n := range 256 {
				readsPlainly(t, changed(b, at, byte(n)))
			}
		}
	}
}

func TestP22_2ListsWithoutElements(t *testing.T) {
	p, errno := Decode(unhex("63707331" + zeros(68)))
	if errno != api.OK || len(p.Consts)+len(p.Wins)+len(p.Crons)+len(p.Code) != 0 {
		t.Error(p, errno)
	}
}
