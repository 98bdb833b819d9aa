package symbol

import (
	"cmp"
	"math"

	"downtilt/api"
)

// receivedError is the first error of received symbols.
func receivedError(x api.SymbolReceived) api.Errno {
	if e := orderError(x.Order); e != api.OK {
		return e
	}
	if !isWithin(x.Gain, 1, api.MaxSymbolGain) {
		return api.ErrRange
	}
	return symbolsError(x.Symbols)
}

// Hard returns the hard bits of received symbols.
func Hard(x api.SymbolReceived) ([]int, api.Errno) {
	return bitsOfParts(x, hardBits)
}

// Soft returns the soft bits of received symbols.
func Soft(x api.SymbolReceived) ([]int, api.Errno) {
	return bitsOfParts(x, softBits)
}

// bitsOfParts puts together what read tells of the bits of a part, so many of them, for all parts. The bits of the two parts of a symbol take turns.
func bitsOfParts(x api.SymbolReceived, read func(part, gain, count int) []int) ([]int, api.Errno) {
	if e := receivedError(x); e != api.OK {
		return nil, e
	}
	count := x.Order / 2
	var l []int
	for _, s := range x.Symbols {
		re, im := read(s.Re, x.Gain, count), read(s.Im, x.Gain, count)
		for i := range count {
			l = append(l, re[i], im[i])
		}
	}
	return l, api.OK
}

// hardBits is the bits of the level that is nearest to a part, of two the lesser level.
func hardBits(part, gain, count int) []int {
	var nearest []int
	least, found := math.MaxInt, 0
	for bits := range labelsOf(count) {
		level := levelOf(bits)
		distance := sizeOf(part - gain*level)
		if distance < least || distance == least && level < found {
			nearest, least, found = bits, distance, level
		}
	}
	return nearest
}

// softBits is the soft bits of a part. The squares are too large for floats to be exact.
func softBits(part, gain, count int) []int {
	soft := make([]int, count)
	for place, least := range leastDistances(part, gain, count) {
		soft[place] = least[1]*least[1] - least[0]*least[0]
	}
	return soft
}

// leastDistances is for each bit of a part how near the levels with the bit 0 are, and those with the bit 1.
func leastDistances(part, gain, count int) [][2]int {
	least := make([][2]int, count)
	for place := range least {
		least[place] = [2]int{math.MaxInt, math.MaxInt}
	}
	for bits := range labelsOf(count) {
		distance := sizeOf(part - gain*levelOf(bits))
		for place, bit := range bits {
			least[place][bit] = min(least[place][bit], distance)
		}
	}
	return least
}

// GreatestError returns the greatest error, and the number of the first symbol that has it.
func GreatestError(x api.SymbolReceived, sent []api.Gauss) (int, int, api.Errno) {
	if e := cmp.Or(receivedError(x), symbolsError(sent)); e != api.OK {
		return 0, 0, e
	}
	if len(sent) != len(x.Symbols) {
		return 0, 0, api.ErrClash
	}
	points := scaled(sent, x.Gain)
	if !areWithin(points, api.MaxSymbolPart) {
		return 0, 0, api.ErrLarge
	}
	greatest, first := 0, 0
	for i, p := range points {
		s := x.Symbols[i]
		size := max(sizeOf(s.Re-p.Re), sizeOf(s.Im-p.Im))
		if size > greatest {
			greatest, first = size, i
		}
	}
	return greatest, first, api.OK
}

func scaled(l []api.Gauss, gain int) []api.Gauss {
	points := make([]api.Gauss, len(l))
	for i, g := range l {
		points[i] = api.Gauss{Re: g.Re * gain, Im: g.Im * gain}
	}
	return points
}

// sizeOf is for numbers that are not the least int.
func sizeOf(n int) int {
	return max(n, -n)
}
