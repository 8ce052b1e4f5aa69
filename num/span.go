package num

import (
	"strconv"

	"capstan/api"
)

// The parts of a duration, by their seconds.
const (
	day    = 86400
	hour   = 3600
	minute = 60
	second = 1
	none   = 0
)

// maxCount is the greatest number of a part: six digits.
const maxCount = 999999

// ReadSpan answers the seconds of the duration's text.
func ReadSpan(text string) (int64, api.Errno) {
	var sum, count int64
	next := int64(day)
	for i := range len(text) {
		if isDigit(text[i]) {
			count = count*10 + int64(text[i]-'0')
			if count == 0 || count > maxCount { // it is 0 only by a first digit 0
				return 0, api.ErrNumber
			}
			continue
		}
		part, behind := partOf(text[i], next)
		if part == none || count == 0 {
			return 0, api.ErrNumber
		}
		sum += count * part
		count, next = 0, behind
	}
	if count != 0 || sum == 0 || sum > api.MaxSpan {
		return 0, api.ErrNumber
	}
	return sum, api.OK
}

// partOf answers the part that the letter names, if it is next or one behind that, and the part behind it.
func partOf(letter byte, next int64) (part, behind int64) {
	switch next {
	case day:
		if letter == 'd' {
			return day, hour
		}
		fallthrough
	case hour:
		if letter == 'h' {
			return hour, minute
		}
		fallthrough
	case minute:
		if letter == 'm' {
			return minute, second
		}
		fallthrough
	case second:
		if letter == 's' {
			return second, none
		}
	}
	return none, none
}

// SpanText answers the text of a duration of n seconds.
func SpanText(n int64) (string, api.Errno) {
	if n < 1 || n > api.MaxSpan {
		return "", api.ErrRange
	}
	days, hours := partText(n/day, "d"), partText(n%day/hour, "h")
	minutes, seconds := partText(n%hour/minute, "m"), partText(n%minute, "s")
	return days + hours + minutes + seconds, api.OK
}

func partText(count int64, letter string) string {
	if count == 0 {
		return ""
	}
	return strconv.FormatInt(count, 10) + letter
}
