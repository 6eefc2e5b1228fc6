package lenses

import (
	"errors"

	"lenses/api"
	"lenses/programs"
	"lenses/reading"
)

// errno tells an error of the inner packages as the number that a call answers.
func errno(err error) api.Errno {
	switch {
	case err == nil:
		return api.OK
	case errors.Is(err, reading.ErrLong):
		return api.ErrLong
	case errors.Is(err, reading.ErrSize):
		return api.ErrSize
	case errors.Is(err, programs.ErrType):
		return api.ErrType
	}
	return api.ErrSyntax
}
