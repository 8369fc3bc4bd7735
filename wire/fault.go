package wire

import (
	"errors"
	"strconv"

	"greenwood/api"
)

var (
	errCut  = errors.New("the bytes end within a number")
	errLong = errors.New("a number is written too long, or is too great")
	errMany = errors.New("a list has too many numbers")
	errLeft = errors.New("bytes are left")
)

// fault wraps what is wrong, and has where it begins.
type fault struct {
	at    int
	cause error
}

func (f fault) Error() string { return "byte " + strconv.Itoa(f.at) + ": " + f.cause.Error() }

func (f fault) Unwrap() error { return f.cause }

// told tells the number and the place of an error that wraps one of this package's.
func told(err error) (api.Errno, int) {
	causes := [...]struct {
		err    error
		number api.Errno
	}{
		{errCut, api.ErrCut},
		{errLong, api.ErrLong},
		{errMany, api.ErrMany},
		{errLeft, api.ErrLeft},
	}
	var f fault
	if !errors.As(err, &f) {
		return api.OK, 0
	}
	for _, c := range causes {
		if errors.Is(err, c.err) {
			return c.number, f.at
		}
	}
	return api.OK, 0
}
