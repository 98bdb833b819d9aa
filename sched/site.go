package sched

import "downtilt/api"

// site is a site that was checked.
type site struct{ api.SchedSite }

// CheckSite finds what is wrong with a site.
func CheckSite(s api.SchedSite) api.Errno {
	return firstError(
		unless(isWithin(s.Blocks, 1, api.MaxSchedBlocks), api.ErrRange),
		unless(isWithin(s.Control, 1, api.MaxSchedControl), api.ErrRange),
		unless(isWithin(s.Power, 0, api.MaxSchedPower), api.ErrRange),
		unless(len(s.Table) > 0, api.ErrShape),
		unless(len(s.Table) <= api.MaxSchedReports, api.ErrLarge),
		tableError(s.Table))
}

// RateOf returns the rate of a report.
func RateOf(s api.SchedSite, report int) (int, api.Errno) {
	if e := CheckSite(s); e != api.OK {
		return 0, e
	}
	k := site{s}
	if !k.isReport(report) {
		return 0, api.ErrRange
	}
	return k.Table[report], api.OK
}

func tableError(table []int) api.Errno {
	before := 0
	return itemsError(table, func(bits int) api.Errno {
		e := firstError(
			unless(isWithin(bits, 0, api.MaxSchedBits), api.ErrRange),
			unless(bits >= before, api.ErrOrder))
		before = bits
		return e
	})
}

func (k site) isReport(n int) bool {
	return isWithin(n, 0, len(k.Table)-1)
}
