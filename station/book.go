package station

import (
	"slices"
	"strings"

	"downtilt/api"
	"downtilt/move"
)

// book is the state of a house's log.
type book struct {
	house api.StationHouse
	api.StationState
}

// CheckLog finds what is wrong with a log, and the number of the first wrong entry.
func CheckLog(h api.StationHouse, log []api.StationEntry) (int, api.Errno) {
	_, err := read(h, log)
	return entryOf(err), codeOf(err)
}

// StateOf returns the state of a log.
func StateOf(h api.StationHouse, log []api.StationEntry) (api.StationState, api.Errno) {
	b, err := read(h, log)
	if err != nil {
		return api.StationState{}, codeOf(err)
	}
	return b.StationState, api.OK
}

// Accept returns a log with one more entry.
func Accept(h api.StationHouse, log []api.StationEntry, x api.StationEntry) ([]api.StationEntry, api.Errno) {
	b, err := read(h, log)
	switch {
	case err != nil:
		return nil, codeOf(err)
	case len(log) == api.MaxStationLog:
		return nil, api.ErrFull
	}
	if err := b.enter(x); err != nil {
		return nil, codeOf(err)
	}
	return append(slices.Clone(log), x), api.OK
}

// begin returns the book of a log without entries.
func begin(h api.StationHouse) (*book, error) {
	if err := refused(houseError(h)); err != nil {
		return nil, err
	}
	b := book{house: h}
	b.Versions = []api.GridCarrier{copiedCarrier(h.Carrier)}
	b.Used = []int{0}
	b.Banks[b.Active] = api.StationBank{Version: 1, Status: api.StationGood}
	b.Trial = api.StationNone
	b.Walk, _ = move.Begin(h.Net, 0) // a right network has a cell 0
	return &b, nil
}

// read returns the book of a log.
func read(h api.StationHouse, log []api.StationEntry) (*book, error) {
	b, err := begin(h)
	if err != nil {
		return nil, err
	}
	if err := refused(logError(log)); err != nil {
		return nil, err
	}
	for i, x := range log {
		if err := b.enter(x); err != nil {
			return nil, wrongEntry{i, err}
		}
	}
	return b, nil
}

// enter does what an entry tells. Nothing changes if it is refused.
func (b *book) enter(x api.StationEntry) error {
	if err := refused(aloneError(x)); err != nil {
		return err
	}
	person := numberOf(b.house.People, personName, x.By)
	if person == none {
		return refusal(api.ErrMissing)
	}
	k, r, err := parse(x.Text)
	if err != nil {
		return err
	}
	if b.house.People[person].Role < k.role {
		return refusal(api.ErrAllowed)
	}
	return k.do(b, r)
}

// logError is that of a log without looking at its entries.
func logError(log []api.StationEntry) api.Errno {
	return unless(len(log) <= api.MaxStationLog, api.ErrLarge)
}

// aloneError is that of an entry alone.
func aloneError(x api.StationEntry) api.Errno {
	return firstError(
		unless(isName(x.By), api.ErrName),
		unless(x.Text != "" && !strings.Contains(x.Text, "\n"), api.ErrForm),
		unless(len(x.Text) <= api.MaxStationText, api.ErrLarge))
}
