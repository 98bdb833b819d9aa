package grid

import (
	"slices"

	"downtilt/api"
)

// maxWait is the longest period of what a phone looks for.
const maxWait = 20

// look is a kind of signal that a phone looks for, and whether a synchronization (or what may be one) has it.
type look struct {
	kind int
	has  func(sync api.GridSignal) bool
}

// looks is what a phone looks for, in its order.
func (k checked) looks() []look {
	return []look{
		{api.GridSync, k.isGood},
		{api.GridBroadcast, k.hasBroadcast},
		{api.GridControl, k.hasControl},
		{api.GridReference, k.hasReference},
	}
}

// Missing returns the first kind that a phone looks for and does not find.
func Missing(c api.GridCarrier) (int, api.Errno) {
	k, e := check(c)
	if e != api.OK {
		return 0, e
	}
	left := slices.Clone(k.Signals)
	for _, x := range k.looks() {
		left = slices.DeleteFunc(left, func(s api.GridSignal) bool { return !x.has(s) })
		if len(left) == 0 {
			return x.kind, api.OK
		}
	}
	return 0, api.ErrNone
}

// isGood tells whether a signal is a good synchronization.
func (k checked) isGood(s api.GridSignal) bool {
	p := k.Parts[s.Part]
	return s.Kind == api.GridSync && p.Mu <= 1 &&
		(s.Period == 5 || s.Period == 10 || s.Period == maxWait) &&
		s.Slot == 0 && (s.Symbol == 2 || s.Symbol == 8) && s.Symbols == 2 &&
		s.Blocks == 2 && s.Step == 1 &&
		unitsOf(p, api.BlockCarriers*s.Block, 1).Lo%api.GridRaster == 0
}

// hasBroadcast compares whole signals: the broadcast of a good synchronization is like it but for its kind and its symbol (with the step 1 there is but one shift).
func (k checked) hasBroadcast(sync api.GridSignal) bool {
	wanted := sync
	wanted.Kind = api.GridBroadcast
	wanted.Symbol += sync.Symbols
	for _, s := range k.Signals {
		if s == wanted {
			return true
		}
	}
	return false
}

func (k checked) hasControl(sync api.GridSignal) bool {
	return slices.ContainsFunc(k.Signals, func(s api.GridSignal) bool {
		return s.Kind == api.GridControl && s.Part == sync.Part && s.Period <= maxWait && s.Symbol == 0
	})
}

func (k checked) hasReference(sync api.GridSignal) bool {
	return slices.ContainsFunc(k.Signals, func(s api.GridSignal) bool {
		return s.Kind == api.GridReference && s.Part == sync.Part && s.Period <= maxWait && s.Step >= 2
	})
}
