package sched

import (
	"slices"

	"downtilt/api"
)

// CheckBearer finds what is wrong with a bearer.
func CheckBearer(s api.SchedSite, x api.SchedBearer) api.Errno {
	if e := CheckSite(s); e != api.OK {
		return e
	}
	return site{s}.bearerError(x)
}

// CheckBearers finds what is wrong with bearers, and the number of the first one that is wrong.
func CheckBearers(s api.SchedSite, l []api.SchedBearer) (int, api.Errno) {
	e := firstError(
		CheckSite(s),
		unless(len(l) <= api.MaxSchedBearers, api.ErrLarge))
	if e != api.OK {
		return 0, e
	}
	k := site{s}
	for i, x := range l {
		e := firstError(
			k.bearerError(x),
			unless(!isNamed(l[:i], x.Name), api.ErrExists))
		if e != api.OK {
			return i, e
		}
	}
	return 0, unless(k.fits(l...), api.ErrFull)
}

// NeedOf returns the need of a bearer.
func NeedOf(s api.SchedSite, x api.SchedBearer) (api.SchedNeed, api.Errno) {
	if e := CheckBearer(s, x); e != api.OK {
		return api.SchedNeed{}, e
	}
	return site{s}.needOf(x), api.OK
}

// DelayOf returns the delay that so many blocks in each slot prove.
func DelayOf(s api.SchedSite, x api.SchedBearer, blocks int) (int, api.Errno) {
	e := firstError(
		guaranteedError(s, x),
		unless(isWithin(blocks, 1, s.Blocks), api.ErrRange))
	if e != api.OK {
		return 0, e
	}
	bits := blocks * s.Table[x.Least]
	if bits < x.Rate {
		return 0, api.ErrNone
	}
	return roundedUp(x.Burst, bits), api.OK
}

// Room returns what the needs of bearers leave of a site.
func Room(s api.SchedSite, l []api.SchedBearer) (api.SchedNeed, api.Errno) {
	if e := bearersError(s, l); e != api.OK {
		return api.SchedNeed{}, e
	}
	return site{s}.roomBeside(l...), api.OK
}

// Breaks returns the first window in which more bits arrive than the contract of a bearer permits.
func Breaks(s api.SchedSite, x api.SchedBearer, arrivals []int) ([2]int, api.Errno) {
	e := firstError(
		guaranteedError(s, x),
		unless(len(arrivals) <= api.MaxSchedSlots, api.ErrLarge))
	if e == api.OK {
		e = itemsError(arrivals, arrivalError)
	}
	if e != api.OK {
		return [2]int{}, e
	}
	for first := range arrivals {
		permitted, bits := x.Burst, 0
		for last := first; last < len(arrivals); last++ {
			bits += arrivals[last]
			if bits > permitted {
				return [2]int{first, last}, api.OK
			}
			permitted += x.Rate
		}
	}
	return [2]int{}, api.ErrNone
}

func bearersError(s api.SchedSite, l []api.SchedBearer) api.Errno {
	_, e := CheckBearers(s, l)
	return e
}

// guaranteedError is the error of a bearer that is to have a contract.
func guaranteedError(s api.SchedSite, x api.SchedBearer) api.Errno {
	return firstError(
		CheckBearer(s, x),
		unless(isGuaranteed(x), api.ErrKind))
}

func arrivalError(bits int) api.Errno {
	return unless(isWithin(bits, 0, api.MaxSchedBurst), api.ErrRange)
}

func isGuaranteed(x api.SchedBearer) bool {
	return x.Kind != api.SchedBest
}

func isNamed(l []api.SchedBearer, name string) bool {
	return slices.ContainsFunc(l, func(x api.SchedBearer) bool { return x.Name == name })
}

func (k site) bearerError(x api.SchedBearer) api.Errno {
	return firstError(
		unless(isName(x.Name), api.ErrName),
		unless(isWithin(x.Kind, 0, api.SchedKinds-1), api.ErrKind),
		unless(isWithin(x.Priority, 0, api.MaxSchedWeight), api.ErrRange),
		unless(isWithin(x.Weight, 1, api.MaxSchedWeight), api.ErrRange),
		unless(isWithin(x.Power, 0, api.MaxSchedPower), api.ErrRange),
		k.contractError(x))
}

func (k site) contractError(x api.SchedBearer) api.Errno {
	switch {
	case !isGuaranteed(x):
		isNothing := x.Least == 0 && x.Burst == 0 && x.Rate == 0 && x.Delay == 0
		return unless(isNothing, api.ErrForm)
	case !k.isReport(x.Least),
		!isWithin(x.Burst, 1, api.MaxSchedBurst),
		!isWithin(x.Rate, 0, api.MaxSchedBurst),
		!isWithin(x.Delay, 1, api.MaxSchedDelay):
		return api.ErrRange
	}
	return unless(k.Table[x.Least] > 0, api.ErrZero)
}

func (k site) needOf(x api.SchedBearer) api.SchedNeed {
	if !isGuaranteed(x) {
		return api.SchedNeed{}
	}
	bits := max(x.Rate, roundedUp(x.Burst, x.Delay))
	blocks := roundedUp(bits, k.Table[x.Least])
	return api.SchedNeed{Blocks: blocks, Control: 1, Power: blocks * x.Power}
}

// roomBeside has numbers below 0 if the needs do not fit.
func (k site) roomBeside(l ...api.SchedBearer) api.SchedNeed {
	room := api.SchedNeed{Blocks: k.Blocks, Control: k.Control, Power: k.Power}
	for _, x := range l {
		need := k.needOf(x)
		room.Blocks -= need.Blocks
		room.Control -= need.Control
		room.Power -= need.Power
	}
	return room
}

// fits tells whether the needs of bearers fit.
func (k site) fits(l ...api.SchedBearer) bool {
	room := k.roomBeside(l...)
	return min(room.Blocks, room.Control, room.Power) >= 0
}
