package sched

import (
	"slices"

	"downtilt/api"
)

// Admit returns the bearers with one more. For an emergency bearer others are removed.
func Admit(s api.SchedSite, l []api.SchedBearer, x api.SchedBearer) (api.SchedAdmission, api.Errno) {
	e := firstError(
		bearersError(s, l),
		CheckBearer(s, x),
		unless(!isNamed(l, x.Name), api.ErrExists))
	if e != api.OK {
		return api.SchedAdmission{}, e
	}
	k := site{s}
	if !k.fits(x) {
		return api.SchedAdmission{}, api.ErrLarge
	}
	all := append(slices.Clone(l), x)
	var removed []string
	for len(all) > api.MaxSchedBearers || !k.fits(all...) {
		i := nextRemoved(all[:len(all)-1])
		if x.Kind != api.SchedEmergency || i == none {
			return api.SchedAdmission{}, api.ErrRefused
		}
		removed = append(removed, all[i].Name)
		all = slices.Delete(all, i, i+1)
	}
	return api.SchedAdmission{Bearers: all, Removed: removed}, api.OK
}

// nextRemoved is the number of the bearer that makes room for an emergency bearer. One of best effort needs nothing but its place.
func nextRemoved(l []api.SchedBearer) int {
	if len(l) == api.MaxSchedBearers {
		if i := lastInRank(l, api.SchedBest); i != none {
			return i
		}
	}
	return lastInRank(l, api.SchedSure)
}

// lastInRank is the number of the bearer of a kind with the greatest priority, of several that of the last one.
func lastInRank(l []api.SchedBearer, kind int) int {
	found := none
	for i, x := range l {
		if x.Kind == kind && (found == none || x.Priority >= l[found].Priority) {
			found = i
		}
	}
	return found
}
