package station

import (
	"slices"

	"downtilt/api"
)

// Desk is a desk with a log.
type Desk struct {
	house api.StationHouse
	log   []api.StationEntry
}

// New returns a desk with no entries.
func New(h api.StationHouse) (*Desk, api.Errno) {
	if e := houseError(h); e != api.OK {
		return nil, e
	}
	return &Desk{house: copiedHouse(h)}, api.OK
}

// Enter puts an entry behind the log.
func (d *Desk) Enter(x api.StationEntry) api.Errno {
	if d == nil {
		return api.ErrNil
	}
	log, e := Accept(d.house, d.log, x)
	if e == api.OK {
		d.log = log
	}
	return e
}

// Undo takes the last entry off.
func (d *Desk) Undo() api.Errno {
	switch {
	case d == nil:
		return api.ErrNil
	case len(d.log) == 0:
		return api.ErrNone
	}
	d.log = d.log[:len(d.log)-1]
	return api.OK
}

// Log returns the log.
func (d *Desk) Log() []api.StationEntry {
	if d == nil {
		return nil
	}
	return slices.Clone(d.log)
}

// Ask returns the answer to a question about the log.
func (d *Desk) Ask(question string) (string, api.Errno) {
	if d == nil {
		return "", api.ErrNil
	}
	return Ask(d.house, d.log, question)
}
