package station

import (
	"slices"
	"strings"

	"downtilt/api"
	"downtilt/grid"
	"downtilt/move"
	"downtilt/plan"
	"downtilt/sched"
)

// maxSoftware is the greatest version of software.
const maxSoftware = 1000000

func (b *book) day(r request) error {
	date := r.numbers[0]
	err := refused(
		rangeError(date, 0, api.MaxDate),
		unless(date >= b.Day, api.ErrOrder))
	if err != nil {
		return err
	}
	b.Day = date
	if b.isOnTrial() && b.Day-b.Trial > api.StationTrial {
		b.failTrial()
	}
	return nil
}

func (b *book) config(r request) error {
	c, e := grid.ParseCarrier(r.text)
	err := refused(
		e,
		usedError(c),
		unless(len(b.Versions) < api.MaxStationVersions, api.ErrFull))
	if err != nil {
		return err
	}
	b.Versions = append(b.Versions, c)
	return nil
}

func (b *book) use(r request) error {
	version := r.numbers[0]
	err := refused(
		missingError(version, len(b.Versions)),
		unless(version != b.inUse(), api.ErrDouble),
		unless(len(b.Used) < api.MaxStationUsed, api.ErrFull))
	if err != nil {
		return err
	}
	b.Used = append(b.Used, version)
	return nil
}

func (b *book) back(request) error {
	if len(b.Used) == 1 {
		return refusal(api.ErrNone)
	}
	b.Used = b.Used[:len(b.Used)-1]
	return nil
}

func (b *book) admit(r request) error {
	x, e := sched.ParseBearer(r.text)
	if err := refused(e); err != nil {
		return err
	}
	behind, e := sched.Admit(b.house.Sched, b.Bearers, x)
	if err := refused(e); err != nil {
		return err
	}
	b.Bearers = behind.Bearers
	b.Removed += len(behind.Removed)
	return nil
}

func (b *book) end(r request) error {
	i := numberOf(b.Bearers, bearerName, r.text)
	if i == none {
		return refusal(api.ErrMissing)
	}
	b.Bearers = slices.Delete(b.Bearers, i, i+1)
	return nil
}

func (b *book) rest(r request) error {
	cell := numberOf(b.house.Plan.Cells, cellName, r.text)
	err := refused(
		unless(cell != none, api.ErrMissing),
		unless(!slices.Contains(b.Resting, cell), api.ErrDouble))
	if err != nil {
		return err
	}
	resting := with(b.Resting, cell)
	if mayRest, _ := plan.MayRest(b.house.Plan, resting); !mayRest {
		return refusal(api.ErrBreak)
	}
	b.Resting = resting
	return nil
}

func (b *book) wake(r request) error {
	cell := numberOf(b.house.Plan.Cells, cellName, r.text)
	err := refused(
		unless(cell != none, api.ErrMissing),
		unless(slices.Contains(b.Resting, cell), api.ErrState))
	if err != nil {
		return err
	}
	b.Resting = without(b.Resting, cell)
	return nil
}

func (b *book) raise(r request) error {
	kind := numberOf(b.house.Alarms, alarmName, r.text)
	err := refused(
		unless(kind != none, api.ErrMissing),
		unless(!slices.Contains(b.Raised, kind), api.ErrDouble))
	if err != nil {
		return err
	}
	b.Raised = with(b.Raised, kind)
	return nil
}

func (b *book) clear(r request) error {
	kind := numberOf(b.house.Alarms, alarmName, r.text)
	err := refused(
		unless(kind != none, api.ErrMissing),
		unless(slices.Contains(b.Raised, kind), api.ErrState))
	if err != nil {
		return err
	}
	b.Raised = without(b.Raised, kind)
	return nil
}

func (b *book) load(r request) error {
	bank, version, pieces := r.numbers[0], r.numbers[1], r.numbers[2]
	err := refused(
		b.bankError(bank),
		unless(bank != b.Active && !b.isOnTrial(), api.ErrBusy),
		rangeError(version, 1, maxSoftware),
		rangeError(pieces, 1, api.MaxStationPieces))
	if err != nil {
		return err
	}
	b.Banks[bank] = api.StationBank{Version: version, Pieces: pieces, Status: api.StationLoading}
	return nil
}

func (b *book) piece(r request) error {
	number, piece := r.numbers[0], r.numbers[1]
	if err := refused(b.bankError(number)); err != nil {
		return err
	}
	bank := &b.Banks[number]
	err := refused(
		unless(bank.Status == api.StationLoading, api.ErrState),
		unless(piece == bank.Got, api.ErrOrder))
	if err != nil {
		return err
	}
	bank.Got++
	if bank.Got == bank.Pieces {
		bank.Status = api.StationReady
	}
	return nil
}

func (b *book) try(r request) error {
	number := r.numbers[0]
	if err := refused(b.bankError(number)); err != nil {
		return err
	}
	bank := &b.Banks[number]
	if bank.Status != api.StationReady {
		return refusal(api.ErrState)
	}
	bank.Status = api.StationOnTrial
	b.Active, b.Trial = number, b.Day
	return nil
}

func (b *book) confirm(request) error {
	if !b.isOnTrial() {
		return refusal(api.ErrNone)
	}
	b.Banks[b.Active].Status = api.StationGood
	b.Trial = api.StationNone
	return nil
}

func (b *book) reject(request) error {
	if !b.isOnTrial() {
		return refusal(api.ErrNone)
	}
	b.failTrial()
	return nil
}

func (b *book) count(r request) error {
	reading := r.numbers[0]
	i := numberOf(b.Counters, counterName, r.text)
	err := refused(
		unless(isName(r.text), api.ErrName),
		readingError(reading),
		unless(b.hasRoom(i), api.ErrFull))
	if err != nil {
		return err
	}
	if i == none {
		i = len(b.Counters)
		b.Counters = append(b.Counters, api.StationCounter{Name: strings.Clone(r.text)})
	}
	counter := &b.Counters[i]
	counter.Readings = append(counter.Readings, reading)
	return nil
}

func (b *book) walk(r request) error {
	event, e := move.ParseEvent(r.text)
	if err := refused(e); err != nil {
		return err
	}
	behind, e := move.Apply(b.house.Net, b.Walk, event)
	if err := refused(e); err != nil {
		return err
	}
	b.Walk = behind
	return nil
}

// inUse is the version of the configuration that is in use.
func (b *book) inUse() int {
	return b.Used[len(b.Used)-1]
}

func (b *book) bankError(bank int) api.Errno {
	return missingError(bank, len(b.Banks))
}

func (b *book) isOnTrial() bool {
	return b.Trial != api.StationNone
}

// failTrial goes back to the bank that was active ahead of the trial.
func (b *book) failTrial() {
	b.Banks[b.Active].Status = api.StationBad
	b.Active = len(b.Banks) - 1 - b.Active
	b.Trial = api.StationNone
}

// hasRoom tells whether a counter, or a new one, may have a reading more.
func (b *book) hasRoom(counter int) bool {
	if counter == none {
		return len(b.Counters) < api.MaxStationCounters
	}
	return len(b.Counters[counter].Readings) < api.MaxStationReadings
}

// with is an ascending list with one more number.
func with(l []int, n int) []int {
	i, _ := slices.BinarySearch(l, n)
	return slices.Insert(slices.Clone(l), i, n)
}

// without is a list without a number.
func without(l []int, n int) []int {
	return slices.DeleteFunc(slices.Clone(l), func(other int) bool { return other == n })
}
