package machine

import (
	"strconv"

	"lathe/api"
)

// wrong is what goes wrong while a program runs.
type wrong struct {
	errno api.Errno
}

func (w wrong) Error() string {
	return "error " + strconv.Itoa(int(w.errno))
}

// inside tells in which procedure something went wrong.
type inside struct {
	procedure string
	err       error
}

func (i inside) Error() string {
	return i.procedure + ": " + i.err.Error()
}

func (i inside) Unwrap() error {
	return i.err
}
