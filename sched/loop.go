package sched

import "downtilt/api"

// lastReport is the greatest one of the longest table.
const lastReport = api.MaxSchedReports - 1

// Adapted returns a report that an outer loop has corrected.
func Adapted(l api.SchedLoop, report int) (int, api.Errno) {
	e := firstError(
		loopError(l),
		unless(isWithin(report, 0, lastReport), api.ErrRange))
	if e != api.OK {
		return 0, e
	}
	return clamped(report+roundedDown(l.Offset, api.SchedTenths), 0, lastReport), api.OK
}

// LoopAfter returns the outer loop behind acknowledgements.
func LoopAfter(l api.SchedLoop, acks []bool) (api.SchedLoop, api.Errno) {
	e := firstError(
		loopError(l),
		unless(len(acks) <= api.MaxSchedAcks, api.ErrLarge))
	if e != api.OK {
		return api.SchedLoop{}, e
	}
	for _, ack := range acks {
		step := -l.Down
		if ack {
			step = l.Up
		}
		l.Offset = clamped(l.Offset+step, l.Limits.Lo, l.Limits.Hi)
	}
	return l, api.OK
}

func loopError(l api.SchedLoop) api.Errno {
	step := within(0, api.MaxSchedOffset)
	end := within(-api.MaxSchedOffset, api.MaxSchedOffset)
	return firstError(
		step(l.Up), step(l.Down),
		end(l.Limits.Lo), end(l.Limits.Hi),
		unless(l.Limits.Lo <= l.Limits.Hi, api.ErrOrder),
		unless(isWithin(l.Offset, l.Limits.Lo, l.Limits.Hi), api.ErrRange))
}

func clamped(n, lo, hi int) int {
	return max(lo, min(n, hi))
}
