package cron

import (
	"strconv"
	"strings"

	"capstan/api"
)

// Text answers c as a schedule's text, which Read reads as c.
func Text(c api.Cron) (string, api.Errno) {
	if !Formed(c) {
		return "", api.ErrForm
	}
	told := make([]string, 0, len(fields))
	for i, set := range sets(c) {
		told = append(told, fieldText(fields[i], set))
	}
	return strings.Join(told, " "), api.OK
}

// fieldText answers a set of the field f as a field's text.
func fieldText(f field, set uint64) string {
	if set == all(f) {
		return "*"
	}
	var runs []string
	first, ok := from(set, f.least)
	for ok {
		last := runEnd(set, first)
		runs = append(runs, runText(first, last))
		first, ok = from(set, last+1)
	}
	return strings.Join(runs, ",")
}

// runEnd answers the last number of the set's run that first is in.
func runEnd(set uint64, first int) int {
	last := first
	for holds(set, last+1) {
		last++
	}
	return last
}

// runText answers the numbers first to last as a text.
func runText(first, last int) string {
	switch last - first {
	case 0:
		return strconv.Itoa(first)
	case 1:
		return strconv.Itoa(first) + "," + strconv.Itoa(last)
	default:
		return strconv.Itoa(first) + "-" + strconv.Itoa(last)
	}
}
