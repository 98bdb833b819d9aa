package grid

import "downtilt/api"

// Occurs returns whether a signal stands in a subframe.
func Occurs(c api.GridCarrier, signal, subframe int) (bool, api.Errno) {
	k, e := checkMoment(c, signal, subframe)
	if e != api.OK {
		return false, e
	}
	return k.all[signal].standsIn(subframe), api.OK
}

// NextOf returns the next subframe, from this one on, in which a signal stands.
func NextOf(c api.GridCarrier, signal, subframe int) (int, api.Errno) {
	k, e := checkMoment(c, signal, subframe)
	if e != api.OK {
		return 0, e
	}
	s := k.Signals[signal]
	wait := (s.Offset - subframe%s.Period + s.Period) % s.Period
	return (subframe + wait) % api.GridSubframes, api.OK
}

// ElementsOf returns how many elements a signal has in a subframe.
func ElementsOf(c api.GridCarrier, signal, subframe int) (int, api.Errno) {
	k, e := checkMoment(c, signal, subframe)
	if e != api.OK || !k.all[signal].standsIn(subframe) {
		return 0, e
	}
	s := k.Signals[signal]
	slots := 1
	if s.Slot == api.GridEach {
		slots = slotsOf(k.Parts[s.Part])
	}
	carriers := 0
	for range k.carriersOf(s) {
		carriers++
	}
	return slots * s.Symbols * carriers, api.OK
}

// checkMoment checks a carrier, the number of a signal, and that of a subframe.
func checkMoment(c api.GridCarrier, signal, subframe int) (checked, api.Errno) {
	k, e := check(c)
	return k, firstError(e, k.noSignal(signal), noSubframe(subframe))
}

// CheckPlace returns the error of an element.
func CheckPlace(c api.GridCarrier, x api.GridPlace) api.Errno {
	_, e := checkPlace(c, x)
	return e
}

func checkPlace(c api.GridCarrier, x api.GridPlace) (checked, api.Errno) {
	k, e := check(c)
	if e = firstError(e, k.noPart(x.Part), noSubframe(x.Subframe)); e != api.OK {
		return k, e
	}
	p := k.Parts[x.Part]
	return k, firstError(
		inRange(x.Slot, 0, slotsOf(p)-1),
		inRange(x.Symbol, 0, api.SlotSymbols-1),
		inRange(x.Carrier, 0, carriersIn(p)-1))
}

// CoverOf returns the ticks and the units that an element covers.
func CoverOf(c api.GridCarrier, x api.GridPlace) (api.GridCover, api.Errno) {
	k, e := checkPlace(c, x)
	if e != api.OK {
		return api.GridCover{}, e
	}
	p := k.Parts[x.Part]
	return api.GridCover{Ticks: ticksOf(p, x.Slot, x.Symbol, 1), Units: unitsOf(p, x.Carrier, 1)}, api.OK
}

// OwnerOf returns the first signal that has an element.
func OwnerOf(c api.GridCarrier, x api.GridPlace) (int, api.Errno) {
	k, e := checkPlace(c, x)
	if e != api.OK {
		return 0, e
	}
	for i := range k.Signals {
		if k.has(i, x) {
			return i, api.OK
		}
	}
	return 0, api.ErrNone
}

// has tells whether an element is one of a signal.
func (k checked) has(signal int, x api.GridPlace) bool {
	s := k.Signals[signal]
	block := x.Carrier / api.BlockCarriers
	return s.Part == x.Part &&
		k.all[signal].standsIn(x.Subframe) && inSlot(s, x.Slot) &&
		s.Symbol <= x.Symbol && x.Symbol < s.Symbol+s.Symbols &&
		s.Block <= block && block < s.Block+s.Blocks && k.onComb(s, x.Carrier)
}

// Share returns whether two signals share a place in any subframe.
func Share(c api.GridCarrier, a, b int) (bool, api.Errno) {
	k, e := check(c)
	e = firstError(e, k.noSignal(a), k.noSignal(b), unless(a != b, api.ErrDouble))
	if e != api.OK {
		return false, e
	}
	_, share := meeting(&k.all[a], &k.all[b])
	return share, api.OK
}

// FirstShared returns the first two signals that share a place, and the first place that they share.
func FirstShared(c api.GridCarrier) (api.GridShared, api.Errno) {
	k, e := check(c)
	if e != api.OK {
		return api.GridShared{}, e
	}
	for a := range k.all {
		for b := a + 1; b < len(k.all); b++ {
			if x, share := meeting(&k.all[a], &k.all[b]); share {
				x.A, x.B = a, b
				return x, api.OK
			}
		}
	}
	return api.GridShared{}, api.ErrNone
}
