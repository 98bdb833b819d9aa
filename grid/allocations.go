package grid

import (
	"slices"

	"downtilt/api"
)

// CheckAllocations returns the first error of allocations, and the number of the one that has it.
func CheckAllocations(c api.GridCarrier, l []api.GridAllocation) (int, api.Errno) {
	k, e := check(c)
	if e != api.OK {
		return 0, e
	}
	_, n, e := k.checkAllocations(l)
	return n, e
}

// checkAllocations returns the areas of allocations too.
func (k checked) checkAllocations(l []api.GridAllocation) ([]area, int, api.Errno) {
	if len(l) > api.MaxGridAllocations {
		return nil, 0, api.ErrLarge
	}
	var earlier []area
	for i, x := range l {
		if e := k.allocationError(x); e != api.OK {
			return nil, i, e
		}
		e := firstError(
			unless(k.isFreeOf(k.firm, x), api.ErrClash),
			unless(k.isFreeOf(earlier, x), api.ErrBusy))
		if e != api.OK {
			return nil, i, e
		}
		earlier = append(earlier, k.areaOf(signalOf(x)))
	}
	return earlier, 0, api.OK
}

// allocationError is the error of an allocation alone.
func (k checked) allocationError(x api.GridAllocation) api.Errno {
	if e := firstError(k.noPart(x.Part), noSubframe(x.Subframe)); e != api.OK {
		return e
	}
	p := k.Parts[x.Part]
	return firstError(inRange(x.Slot, 0, slotsOf(p)-1), standingError(signalOf(x), p))
}

// signalOf is the signal that stands where an allocation does, and nowhere else.
func signalOf(x api.GridAllocation) api.GridSignal {
	return api.GridSignal{
		Kind: api.GridData, Part: x.Part,
		Period: api.GridSubframes, Offset: x.Subframe, Slot: x.Slot,
		Symbol: x.Symbol, Symbols: x.Symbols,
		Block: x.Block, Blocks: x.Blocks, Step: 1,
	}
}

// isFreeOf tells whether an allocation shares no place with any of the areas.
func (k checked) isFreeOf(areas []area, x api.GridAllocation) bool {
	p := k.Parts[x.Part]
	busy := busyUnits(areas, x.Subframe, ticksOf(p, x.Slot, x.Symbol, x.Symbols))
	return isFree(busy, blockUnits(p, x.Block, x.Blocks))
}

// RoomOf returns how many elements of an allocation share no place with any signal.
func RoomOf(c api.GridCarrier, x api.GridAllocation) (int, api.Errno) {
	k, e := check(c)
	if e = firstError(e, k.allocationError(x)); e != api.OK {
		return 0, e
	}
	p := k.Parts[x.Part]
	room := 0
	for n := range x.Symbols {
		busy := busyUnits(k.all, x.Subframe, ticksOf(p, x.Slot, x.Symbol+n, 1))
		for carrier := range k.carriersOf(signalOf(x)) {
			if isFree(busy, unitsOf(p, carrier, 1)) {
				room++
			}
		}
	}
	return room, api.OK
}

// FreeBlocks returns the longest runs of blocks in which an allocation with the subframe, the slot and the symbols of x fits beside others.
func FreeBlocks(c api.GridCarrier, l []api.GridAllocation, x api.GridAllocation) ([]api.Range, api.Errno) {
	k, e := check(c)
	if e != api.OK {
		return nil, e
	}
	others, _, e := k.checkAllocations(l)
	if e = firstError(e, k.allocationError(x)); e != api.OK {
		return nil, e
	}
	return k.freeRuns(slices.Concat(k.firm, others), x), api.OK
}

// freeRuns returns the longest runs of blocks on which none of the areas stands in the subframe, the slot and the symbols of x.
func (k checked) freeRuns(areas []area, x api.GridAllocation) []api.Range {
	p := k.Parts[x.Part]
	busy := busyUnits(areas, x.Subframe, ticksOf(p, x.Slot, x.Symbol, x.Symbols))
	var runs []api.Range
	before := false
	for block := range p.Blocks {
		free := isFree(busy, blockUnits(p, block, 1))
		if free && before {
			runs[len(runs)-1].Hi = block
		} else if free {
			runs = append(runs, api.Range{Lo: block, Hi: block})
		}
		before = free
	}
	return runs
}

// FirstFit returns the first allocation that is as wanted and fits beside others.
func FirstFit(c api.GridCarrier, l []api.GridAllocation, x api.GridWant) (api.GridAllocation, api.Errno) {
	k, e := check(c)
	if e != api.OK {
		return api.GridAllocation{}, e
	}
	others, _, e := k.checkAllocations(l)
	if e = firstError(e, k.wantError(x)); e != api.OK {
		return api.GridAllocation{}, e
	}
	areas := slices.Concat(k.firm, others)
	for subframe := x.From; subframe <= x.To; subframe++ {
		for slot := range slotsOf(k.Parts[x.Part]) {
			y := wantedAt(x, subframe, slot)
			for _, run := range k.freeRuns(areas, y) {
				if run.Hi-run.Lo+1 >= y.Blocks {
					y.Block = run.Lo
					return y, api.OK
				}
			}
		}
	}
	return api.GridAllocation{}, api.ErrNone
}

// wantError is the error of what is wanted.
func (k checked) wantError(x api.GridWant) api.Errno {
	return firstError(
		k.noPart(x.Part),
		noSubframe(x.From),
		noSubframe(x.To),
		unless(x.From <= x.To, api.ErrOrder),
		k.allocationError(wantedAt(x, x.From, 0)),
		unless(x.To-x.From <= api.MaxGridAhead, api.ErrLarge))
}

// wantedAt is the allocation that is wanted, at a subframe and a slot, from the block 0 on.
func wantedAt(x api.GridWant, subframe, slot int) api.GridAllocation {
	return api.GridAllocation{
		Part: x.Part, Subframe: subframe, Slot: slot,
		Symbol: x.Symbol, Symbols: x.Symbols, Blocks: x.Blocks,
	}
}

// busyUnits tells of each unit whether one of the areas stands there in a subframe, at any of the ticks.
func busyUnits(areas []area, subframe int, ticks api.Range) []bool {
	busy := make([]bool, api.MaxGridWidth)
	for i := range areas {
		a := &areas[i]
		if !a.standsIn(subframe) || isFree(a.ticks[:], ticks) {
			continue
		}
		for unit, is := range a.units {
			busy[unit] = busy[unit] || is
		}
	}
	return busy
}

func isFree(busy []bool, r api.Range) bool {
	return !slices.Contains(busy[r.Lo:r.Hi+1], true)
}

// blockUnits returns the units of neighbouring blocks of a part.
func blockUnits(p api.GridPart, block, blocks int) api.Range {
	return unitsOf(p, api.BlockCarriers*block, api.BlockCarriers*blocks)
}
