package cron

import (
	"capstan/api"
)

const (
	maxText = 256 // bytes
	maxStep = 99
)

// Read answers the schedule that text writes; or an error and the place at which it is none.
func Read(text string) (api.Cron, int, api.Errno) {
	if len(text) > maxText {
		return api.Cron{}, 0, api.ErrLong
	}
	r := reader{text: text}
	var read [5]uint64
	for i, f := range fields {
		if i > 0 && !r.take(' ') {
			return api.Cron{}, r.at, api.ErrCron
		}
		set, ok := r.field(f)
		if !ok {
			return api.Cron{}, r.at, api.ErrCron
		}
		read[i] = set
	}
	if r.at < len(text) {
		return api.Cron{}, r.at, api.ErrCron
	}
	return join(read), 0, api.OK
}

// reader goes through a text. What it can't read it leaves ahead of it, so that at is then the
// place of the fault.
type reader struct {
	text string
	at   int
}

// take goes over the byte b, if it comes next.
func (r *reader) take(b byte) bool {
	if r.at == len(r.text) || r.text[r.at] != b {
		return false
	}
	r.at++
	return true
}

// field reads one field: its items.
func (r *reader) field(f field) (uint64, bool) {
	set := uint64(0)
	for {
		item, ok := r.item(f)
		if !ok {
			return 0, false
		}
		set |= item
		if !r.take(',') {
			return set, true
		}
	}
}

// item reads one item of the field f.
func (r *reader) item(f field) (uint64, bool) {
	if r.take('*') {
		return r.steps(f.least, f.most)
	}
	first, ok := r.number(f.least, f.most)
	if !ok {
		return 0, false
	}
	if !r.take('-') {
		return 1 << first, true
	}
	last, ok := r.number(first, f.most)
	if !ok {
		return 0, false
	}
	return r.steps(first, last)
}

// steps reads what may stand behind a range, and answers the range's numbers.
func (r *reader) steps(first, last int) (uint64, bool) {
	if !r.take('/') {
		return every(first, last, 1), true
	}
	step, ok := r.number(1, maxStep)
	if !ok {
		return 0, false
	}
	return every(first, last, step), true
}

// number reads a number that is least to most.
func (r *reader) number(least, most int) (int, bool) {
	end := r.at
	for end < len(r.text) && '0' <= r.text[end] && r.text[end] <= '9' {
		end++
	}
	n, ok := value(r.text[r.at:end])
	if !ok || n < least || n > most {
		return 0, false
	}
	r.at = end
	return n, true
}

// value answers the number that digits write: one digit, or two of which the first isn't 0.
func value(digits string) (int, bool) {
	switch {
	case len(digits) == 1:
		return int(digits[0] - '0'), true
	case len(digits) == 2 && digits[0] != '0':
		return int(digits[0]-'0')*10 + int(digits[1]-'0'), true
	default:
		return 0, false
	}
}
