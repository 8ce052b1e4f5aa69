package check

import (
	"errors"
	"strconv"

	"capstan/api"
)

// fault is the error that ends the walk, and its place.
type fault struct {
	at    int
	errno api.Errno
}

func (f fault) Error() string {
	return "error " + strconv.Itoa(int(f.errno)) + " at " + strconv.Itoa(f.at)
}

// faultAt answers the fault at the place; nil, if nothing is wrong.
func faultAt(at int, errno api.Errno) error {
	if errno == api.OK {
		return nil
	}
	return fault{at, errno}
}

// whereAndWhy answers what the fault err says.
func whereAndWhy(err error) (int, api.Errno) {
	// An error that is no fault would be a mistake of this package: not even that makes a plan.
	found := fault{errno: api.ErrForm}
	errors.As(err, &found)
	return found.at, found.errno
}
