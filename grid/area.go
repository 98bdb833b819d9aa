package grid

import (
	"iter"

	"downtilt/api"
)

// area is where a signal stands. In each of its subframes it has each of its ticks with each of its units, so the two can be looked at one without the other.
type area struct {
	period, offset int
	ticks          [api.GridTicks]bool
	units          [api.MaxGridWidth]bool
}

func (k checked) areaOf(s api.GridSignal) area {
	p := k.Parts[s.Part]
	a := area{period: s.Period, offset: s.Offset}
	for slot := range slotsOf(p) {
		if inSlot(s, slot) {
			mark(a.ticks[:], ticksOf(p, slot, s.Symbol, s.Symbols))
		}
	}
	for carrier := range k.carriersOf(s) {
		mark(a.units[:], unitsOf(p, carrier, 1))
	}
	return a
}

func (a *area) standsIn(subframe int) bool {
	return subframe%a.period == a.offset
}

// meeting returns the first place that two areas share.
func meeting(a, b *area) (api.GridShared, bool) {
	subframe, together := firstTogether(a, b)
	tick, atOnce := firstBoth(a.ticks[:], b.ticks[:])
	unit, onOne := firstBoth(a.units[:], b.units[:])
	if !together || !atOnce || !onOne {
		return api.GridShared{}, false
	}
	return api.GridShared{Subframe: subframe, Tick: tick, Unit: unit}, true
}

// firstTogether returns the first subframe in which two areas stand.
func firstTogether(a, b *area) (int, bool) {
	for n := a.offset; n < api.GridSubframes; n += a.period {
		if b.standsIn(n) {
			return n, true
		}
	}
	return 0, false
}

// firstBoth returns the first place at which two lists of one length are both true.
func firstBoth(a, b []bool) (int, bool) {
	for i, is := range a {
		if is && b[i] {
			return i, true
		}
	}
	return 0, false
}

func mark(l []bool, r api.Range) {
	for i := r.Lo; i <= r.Hi; i++ {
		l[i] = true
	}
}

// carriersOf ranges over the subcarriers of a signal, by their numbers in its part.
func (k checked) carriersOf(s api.GridSignal) iter.Seq[int] {
	return func(yield func(int) bool) {
		from, to := api.BlockCarriers*s.Block, api.BlockCarriers*(s.Block+s.Blocks)
		for carrier := from; carrier < to; carrier++ {
			if k.onComb(s, carrier) && !yield(carrier) {
				return
			}
		}
	}
}

// onComb tells whether a subcarrier is one that the step and the shift of a signal leave.
func (k checked) onComb(s api.GridSignal, carrier int) bool {
	return carrier%s.Step == (s.Shift+k.Cell)%s.Step
}

func inSlot(s api.GridSignal, slot int) bool {
	return s.Slot == api.GridEach || s.Slot == slot
}

// slotsOf is how many slots a subframe has in the numerology of a part.
func slotsOf(p api.GridPart) int {
	return 1 << p.Mu
}

// carrierWidth is how many units wide a subcarrier of a part is.
func carrierWidth(p api.GridPart) int {
	return 1 << p.Mu
}

func carriersIn(p api.GridPart) int {
	return api.BlockCarriers * p.Blocks
}

// ticksOf returns the ticks of symbols of a slot, in the numerology of a part.
func ticksOf(p api.GridPart, slot, symbol, symbols int) api.Range {
	each := api.GridTicks / (api.SlotSymbols * slotsOf(p))
	from := (slot*api.SlotSymbols + symbol) * each
	return api.Range{Lo: from, Hi: from + symbols*each - 1}
}

// unitsOf returns the units of neighbouring subcarriers of a part.
func unitsOf(p api.GridPart, carrier, carriers int) api.Range {
	each := carrierWidth(p)
	from := p.First + carrier*each
	return api.Range{Lo: from, Hi: from + carriers*each - 1}
}
