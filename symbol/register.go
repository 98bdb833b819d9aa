package symbol

import (
	"cmp"
	"slices"

	"downtilt/api"
)

// minRegister is how many bits a register has at least.
const minRegister = 2

// CheckRegister returns the first error of a register.
func CheckRegister(r api.SymbolRegister) api.Errno {
	if !isWithin(r.Length, minRegister, api.MaxSymbolRegister) {
		return api.ErrRange
	}
	if e := tapsError(r.Taps, r.Length); e != api.OK {
		return e
	}
	if len(r.State) != r.Length {
		return api.ErrShape
	}
	return bitsError(r.State, r.Length)
}

// tapsError is the first error of the taps of a register of that length.
func tapsError(taps []int, length int) api.Errno {
	if len(taps) == 0 {
		return api.ErrShape
	}
	before := -1
	for _, tap := range taps {
		if !isWithin(tap, 0, length-1) {
			return api.ErrRange
		}
		if tap <= before {
			return api.ErrOrder
		}
		before = tap
	}
	if taps[0] != 0 {
		return api.ErrForm
	}
	return api.OK
}

// Next returns what a step gives out, and the register behind it.
func Next(r api.SymbolRegister) (int, api.SymbolRegister, api.Errno) {
	if e := CheckRegister(r); e != api.OK {
		return 0, api.SymbolRegister{}, e
	}
	behind := copyOf(r)
	out := step(behind)
	return out, behind, api.OK
}

// Sequence returns what so many steps give out.
func Sequence(r api.SymbolRegister, count int) ([]int, api.Errno) {
	if e := CheckRegister(r); e != api.OK {
		return nil, e
	}
	if !isWithin(count, 1, api.MaxSymbolBits) {
		return nil, api.ErrRange
	}
	return sequence(r, count), api.OK
}

// Jumped returns the register behind so many steps.
func Jumped(r api.SymbolRegister, steps int) (api.SymbolRegister, api.Errno) {
	if e := CheckRegister(r); e != api.OK {
		return api.SymbolRegister{}, e
	}
	if !isWithin(steps, 0, api.MaxSymbolSteps) {
		return api.SymbolRegister{}, api.ErrRange
	}
	behind := copyOf(r)
	for range steps % period(r) {
		step(behind)
	}
	return behind, api.OK
}

// Period returns the period of a register.
func Period(r api.SymbolRegister) (int, api.Errno) {
	if e := CheckRegister(r); e != api.OK {
		return 0, e
	}
	return period(r), api.OK
}

// Scrambled returns scrambled bits.
func Scrambled(r api.SymbolRegister, bits []int) ([]int, api.Errno) {
	if e := cmp.Or(CheckRegister(r), bitsError(bits, api.MaxSymbolBits)); e != api.OK {
		return nil, e
	}
	l := sequence(r, len(bits))
	for i, b := range bits {
		l[i] ^= b
	}
	return l, api.OK
}

// copyOf shares no memory with r.
func copyOf(r api.SymbolRegister) api.SymbolRegister {
	r.Taps = slices.Clone(r.Taps)
	r.State = slices.Clone(r.State)
	return r
}

// step returns what a step gives out. It moves the bits of State on where they are, so r is to be a copy.
func step(r api.SymbolRegister) int {
	out, sum := r.State[0], 0
	for _, tap := range r.Taps {
		sum ^= r.State[tap]
	}
	copy(r.State, r.State[1:])
	r.State[r.Length-1] = sum
	return out
}

func sequence(r api.SymbolRegister, count int) []int {
	behind := copyOf(r)
	l := make([]int, count)
	for i := range l {
		l[i] = step(behind)
	}
	return l
}

// period has an end: the tap 0 lets each step be undone, so the first bits that come again are those of r.
func period(r api.SymbolRegister) int {
	behind := copyOf(r)
	step(behind)
	steps := 1
	for !slices.Equal(behind.State, r.State) {
		step(behind)
		steps++
	}
	return steps
}
