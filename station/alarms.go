package station

import (
	"slices"

	"downtilt/api"
)

// BroughtAbout returns all kinds of alarms that a kind brings about.
func BroughtAbout(h api.StationHouse, kind int) ([]int, api.Errno) {
	e := firstError(
		houseError(h),
		missingError(kind, len(h.Alarms)))
	if e != api.OK {
		return nil, e
	}
	return broughtAbout(h.Alarms, kind), api.OK
}

// RootsOf returns those of raised alarms that none of the others brings about.
func RootsOf(h api.StationHouse, raised []int) ([]int, api.Errno) {
	if e := raisedError(h, raised); e != api.OK {
		return nil, e
	}
	return rootsOf(h.Alarms, raised), api.OK
}

// LeastCauses returns as few kinds as possible that are raised alarms, or bring them about.
func LeastCauses(h api.StationHouse, raised []int) ([]int, api.Errno) {
	if e := raisedError(h, raised); e != api.OK {
		return nil, e
	}
	least := slices.Clone(raised)
	for mask := range 1 << len(h.Alarms) {
		kinds := kindsOf(mask)
		if isBefore(kinds, least) && explain(h.Alarms, kinds, raised) {
			least = kinds
		}
	}
	return least, api.OK
}

// WorstOf returns the greatest severity of raised alarms.
func WorstOf(h api.StationHouse, raised []int) (int, api.Errno) {
	e := firstError(
		raisedError(h, raised),
		unless(len(raised) > 0, api.ErrNone))
	if e != api.OK {
		return 0, e
	}
	worst := 0
	for _, kind := range raised {
		worst = max(worst, h.Alarms[kind].Severity)
	}
	return worst, api.OK
}

// raisedError is that of a house, and of raised alarms.
func raisedError(h api.StationHouse, raised []int) api.Errno {
	return firstError(
		houseError(h),
		ascendingError(raised, len(h.Alarms)))
}

// broughtAbout needs to look at each kind once only, since causes have lesser numbers.
func broughtAbout(alarms []api.StationAlarm, kind int) []int {
	var all []int
	for number, x := range alarms {
		isNext := func(cause int) bool { return cause == kind || slices.Contains(all, cause) }
		if slices.ContainsFunc(x.Causes, isNext) {
			all = append(all, number)
		}
	}
	return all
}

func rootsOf(alarms []api.StationAlarm, raised []int) []int {
	roots := slices.Clone(raised)
	for _, kind := range raised {
		for _, number := range broughtAbout(alarms, kind) {
			roots = without(roots, number)
		}
	}
	return roots
}

// explain tells whether each raised alarm is one of some kinds, or brought about by one.
func explain(alarms []api.StationAlarm, kinds, raised []int) bool {
	all := slices.Clone(kinds)
	for _, kind := range kinds {
		all = append(all, broughtAbout(alarms, kind)...)
	}
	return !slices.ContainsFunc(raised, func(kind int) bool { return !slices.Contains(all, kind) })
}

// isBefore tells whether a list has fewer numbers than another one, or as many and is lexicographically less.
func isBefore(a, b []int) bool {
	if len(a) != len(b) {
		return len(a) < len(b)
	}
	return slices.Compare(a, b) < 0
}

// kindsOf is the places of the ones of a mask.
func kindsOf(mask int) []int {
	var kinds []int
	for kind := 0; mask>>kind > 0; kind++ {
		if mask>>kind&1 == 1 {
			kinds = append(kinds, kind)
		}
	}
	return kinds
}
