// Package deny: the errors by which what is deep inside denies something.
package deny

import (
	"strconv"

	"embassy/api"
)

// Denial says that something was denied, and by which number that is told outside.
type Denial struct {
	Code api.Errno
}

func (d Denial) Error() string {
	return "denied with error " + strconv.Itoa(int(d.Code))
}

// Met is an error, wrapped by who has met it on its way out.
type Met struct {
	By  string
	Err error
}

func (m Met) Error() string {
	return m.By + ": " + m.Err.Error()
}

// Unwrap gives the error that was met.
func (m Met) Unwrap() error {
	return m.Err
}
