package lenses

import (
	"errors"

	"lenses/api"
	"lenses/patterns"
)

// errno tells an error of the inner packages as the number that a call answers.
func errno(err error) api.Errno {
	switch {
	case err == nil:
		return api.OK
	case errors.Is(err, patterns.ErrLong):
		return api.ErrLong
	case errors.Is(err, patterns.ErrSize):
		return api.ErrSize
	}
	return api.ErrSyntax
}
