package station

import (
	"slices"

	"downtilt/api"
	"downtilt/grid"
	"downtilt/move"
	"downtilt/plan"
	"downtilt/sched"
)

// maxSeverity is the greatest severity of alarms.
const maxSeverity = 3

// CheckHouse finds what is wrong with a house, and the number of the person or the kind of alarm.
func CheckHouse(h api.StationHouse) (int, api.Errno) {
	e := firstError(
		unless(isName(h.Name), api.ErrName),
		countError(len(h.People), api.MaxStationPeople))
	if e != api.OK {
		return 0, e
	}
	if person, e := namedError(h.People, personName, roleError); e != api.OK {
		return person, e
	}
	e = firstError(
		carrierError(h.Carrier),
		usedError(h.Carrier),
		sched.CheckSite(h.Sched),
		networkError(h.Net),
		planError(h.Plan),
		unless(len(h.Alarms) <= api.MaxStationAlarms, api.ErrLarge))
	if e != api.OK {
		return 0, e
	}
	return namedError(h.Alarms, alarmName, alarmError)
}

// houseError is that of a house without its number.
func houseError(h api.StationHouse) api.Errno {
	_, e := CheckHouse(h)
	return e
}

func roleError(_ int, x api.StationPerson) api.Errno {
	return unless(isWithin(x.Role, 0, api.StationRoles-1), api.ErrKind)
}

func carrierError(c api.GridCarrier) api.Errno {
	_, e := grid.CheckCarrier(c)
	return e
}

// usedError tells why a right carrier may not be used.
func usedError(c api.GridCarrier) api.Errno {
	_, shares := grid.FirstShared(c)
	_, misses := grid.Missing(c)
	return firstError(
		unless(shares != api.OK, api.ErrClash),
		unless(misses != api.OK, api.ErrGap))
}

func networkError(n api.MoveNetwork) api.Errno {
	_, e := move.CheckNetwork(n)
	return e
}

func planError(p api.PlanPlan) api.Errno {
	_, e := plan.MayRest(p, nil)
	return e
}

func alarmError(kind int, x api.StationAlarm) api.Errno {
	return firstError(
		rangeError(x.Severity, 0, maxSeverity),
		ascendingError(x.Causes, kind))
}

// copiedHouse is a house that shares no memory with the given one.
func copiedHouse(h api.StationHouse) api.StationHouse {
	h.People = slices.Clone(h.People)
	h.Carrier = copiedCarrier(h.Carrier)
	h.Sched.Table = slices.Clone(h.Sched.Table)
	h.Net.Cells = slices.Clone(h.Net.Cells)
	h.Net.Neighbours = slices.Clone(h.Net.Neighbours)
	h.Plan.Raster.Rows = slices.Clone(h.Plan.Raster.Rows)
	for i, row := range h.Plan.Raster.Rows {
		h.Plan.Raster.Rows[i] = slices.Clone(row)
	}
	h.Plan.Cells = slices.Clone(h.Plan.Cells)
	h.Plan.Losses = slices.Clone(h.Plan.Losses)
	h.Alarms = slices.Clone(h.Alarms)
	for i, kind := range h.Alarms {
		h.Alarms[i].Causes = slices.Clone(kind.Causes)
	}
	return h
}

func copiedCarrier(c api.GridCarrier) api.GridCarrier {
	c.Parts = slices.Clone(c.Parts)
	c.Signals = slices.Clone(c.Signals)
	return c
}
