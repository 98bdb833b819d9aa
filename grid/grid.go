// Package grid is chapter 1: the resource grid and what stands where. See shared/doc/01-grid.md.
package grid

import "downtilt/api"

// checked is a carrier that CheckCarrier has accepted: its numbers may be used without looking at them again.
type checked struct {
	api.GridCarrier
	all  []area // where each signal stands
	firm []area // where no data may stand: all but the references
}

// check makes a carrier a checked one. Beside an error it has no parts and no signals.
func check(c api.GridCarrier) (checked, api.Errno) {
	if _, e := CheckCarrier(c); e != api.OK {
		return checked{}, e
	}
	k := checked{GridCarrier: c}
	for _, s := range k.Signals {
		a := k.areaOf(s)
		k.all = append(k.all, a)
		if s.Kind != api.GridReference {
			k.firm = append(k.firm, a)
		}
	}
	return k, api.OK
}

// CheckCarrier returns the first error of a carrier, and the part or the signal that has it.
func CheckCarrier(c api.GridCarrier) (api.GridMark, api.Errno) {
	e := firstError(
		unless(isName(c.Name), api.ErrName),
		inRange(c.Cell, 0, api.MaxCell-1),
		inRange(c.Width, 1, api.MaxGridWidth),
		unless(len(c.Parts) > 0, api.ErrShape),
		unless(len(c.Parts) <= api.MaxGridParts, api.ErrLarge))
	if e != api.OK {
		return api.GridMark{}, e
	}
	for i, p := range c.Parts {
		if e := partError(p, c.Width); e != api.OK {
			return api.GridMark{List: api.GridParts, Number: i}, e
		}
	}
	if len(c.Signals) > api.MaxGridSignals {
		return api.GridMark{}, api.ErrLarge
	}
	for i, s := range c.Signals {
		if e := signalError(s, c.Parts); e != api.OK {
			return api.GridMark{List: api.GridSignals, Number: i}, e
		}
	}
	return api.GridMark{}, api.OK
}

// UnitsOf returns the first and the last unit of a part.
func UnitsOf(c api.GridCarrier, part int) (api.Range, api.Errno) {
	k, e := check(c)
	if e = firstError(e, k.noPart(part)); e != api.OK {
		return api.Range{}, e
	}
	p := k.Parts[part]
	return unitsOf(p, 0, carriersIn(p)), api.OK
}

// partError is the first error of a part of a carrier of that width.
func partError(p api.GridPart, width int) api.Errno {
	e := firstError(
		inRange(p.Mu, 0, api.MaxNumerology),
		inRange(p.First, 0, width-1),
		inRange(p.Blocks, 1, api.MaxGridBlocks))
	if e != api.OK {
		return e // the numbers below need a right numerology
	}
	return firstError(
		unless(p.First%carrierWidth(p) == 0, api.ErrForm),
		unless(unitsOf(p, 0, carriersIn(p)).Hi < width, api.ErrBreak))
}

// signalError is the first error of a signal of a carrier of these parts.
func signalError(s api.GridSignal, parts []api.GridPart) api.Errno {
	e := firstError(
		unless(0 <= s.Kind && s.Kind < api.GridKinds, api.ErrKind),
		unless(0 <= s.Part && s.Part < len(parts), api.ErrMissing),
		inRange(s.Period, 1, api.GridSubframes))
	if e != api.OK {
		return e // below, the part is looked up, and the period divides
	}
	return firstError(
		unless(api.GridSubframes%s.Period == 0, api.ErrForm),
		inRange(s.Offset, 0, s.Period-1),
		standingError(s, parts[s.Part]))
}

// standingError is the first error of the slot, symbols and subcarriers of a signal of a part.
func standingError(s api.GridSignal, p api.GridPart) api.Errno {
	return firstError(
		inRange(s.Slot, api.GridEach, slotsOf(p)-1),
		inRange(s.Symbol, 0, api.SlotSymbols-1),
		inRange(s.Symbols, 1, api.SlotSymbols),
		inRange(s.Block, 0, p.Blocks-1),
		inRange(s.Blocks, 1, p.Blocks),
		inRange(s.Step, 1, api.BlockCarriers),
		inRange(s.Shift, 0, s.Step-1),
		unless(s.Symbol+s.Symbols <= api.SlotSymbols, api.ErrBreak),
		unless(s.Block+s.Blocks <= p.Blocks, api.ErrBreak))
}

// noPart is the error of the number of a part.
func (k checked) noPart(part int) api.Errno {
	return unless(0 <= part && part < len(k.Parts), api.ErrMissing)
}

// noSignal is the error of the number of a signal.
func (k checked) noSignal(signal int) api.Errno {
	return unless(0 <= signal && signal < len(k.Signals), api.ErrMissing)
}

// noSubframe is the error of the number of a subframe.
func noSubframe(subframe int) api.Errno {
	return inRange(subframe, 0, api.GridSubframes-1)
}

// firstError returns the first of errors that is one.
func firstError(errors ...api.Errno) api.Errno {
	for _, e := range errors {
		if e != api.OK {
			return e
		}
	}
	return api.OK
}

func unless(right bool, e api.Errno) api.Errno {
	if right {
		return api.OK
	}
	return e
}

func inRange(n, lo, hi int) api.Errno {
	return unless(lo <= n && n <= hi, api.ErrRange)
}

func isName(s string) bool {
	if len(s) < 1 || len(s) > api.MaxName || !isLetter(s[0]) {
		return false
	}
	for i := range len(s) {
		if !isLetter(s[i]) && !isDigit(s[i]) && s[i] != '-' {
			return false
		}
	}
	return true
}

func isLetter(b byte) bool {
	return 'a' <= b && b <= 'z' || 'A' <= b && b <= 'Z'
}

func isDigit(b byte) bool {
	return '0' <= b && b <= '9'
}
