package matroid

import (
	"errors"
	"strconv"

	"greenwood/api"
)

var (
	errDeep = errors.New("matroids lie too deep within one another")
	errKind = errors.New("there is no such kind")
	errMany = errors.New("there are too many, or below none")
	errForm = errors.New("the kind takes more, or less")
	errFit  = errors.New("what it has may not be together")
)

// wrong is what is wrong with a matroid: the error within, and the matroid's kind.
type wrong struct {
	error
	tag int
}

func (w wrong) Error() string { return "kind " + strconv.Itoa(w.tag) + ": " + w.error.Error() }

func (w wrong) Unwrap() error { return w.error }

// told tells the number of an error.
func told(err error) api.Errno {
	var w wrong
	switch {
	case errors.Is(err, errDeep):
		return api.ErrDeep
	case errors.As(err, &w):
		return api.ErrMatroid
	}
	return api.OK
}
