package station

import (
	"errors"
	"strconv"

	"downtilt/api"
)

// refusal is an error code as an error.
type refusal api.Errno

func (r refusal) Error() string {
	return "refused with the code " + strconv.Itoa(int(r))
}

// wrongEntry is why an entry of a log is refused, and its number.
type wrongEntry struct {
	number int
	why    error
}

func (w wrongEntry) Error() string {
	return "entry " + strconv.Itoa(w.number) + ": " + w.why.Error()
}

func (w wrongEntry) Unwrap() error {
	return w.why
}

// refused is the first of error codes that is one, as an error.
func refused(codes ...api.Errno) error {
	if e := firstError(codes...); e != api.OK {
		return refusal(e)
	}
	return nil
}

// codeOf is the error code of the refusal that is in an error.
func codeOf(err error) api.Errno {
	var r refusal
	if errors.As(err, &r) {
		return api.Errno(r)
	}
	return api.OK
}

// entryOf is the number of the entry that an error is about, and 0 if it is about none.
func entryOf(err error) int {
	var w wrongEntry
	if errors.As(err, &w) {
		return w.number
	}
	return 0
}
