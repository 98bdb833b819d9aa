package symbol

import (
	"cmp"
	"iter"
	"slices"

	"downtilt/api"
)

// maxLevelBits is how many bits a level has at most.
const maxLevelBits = 3

// labelsOf ranges over the bits of all labels of so many bits, in the order of the numbers that they are. Each label is new memory, so that a loop may keep it.
func labelsOf(count int) iter.Seq[[]int] {
	return func(yield func([]int) bool) {
		for number := range 1 << count {
			bits := make([]int, count)
			for place := range bits {
				bits[place] = number >> (count - 1 - place) & 1
			}
			if !yield(bits) {
				return
			}
		}
	}
}

// LevelOf returns the level of bits.
func LevelOf(bits []int) (int, api.Errno) {
	if e := bitsError(bits, maxLevelBits); e != api.OK {
		return 0, e
	}
	return levelOf(bits), api.OK
}

// BitsOf returns the bits of a level.
func BitsOf(count, level int) ([]int, api.Errno) {
	if !isWithin(count, 1, maxLevelBits) {
		return nil, api.ErrRange
	}
	for bits := range labelsOf(count) {
		if levelOf(bits) == level {
			return bits, api.OK
		}
	}
	return nil, api.ErrForm
}

// Points returns all points of an order.
func Points(order int) ([]api.Gauss, api.Errno) {
	if e := orderError(order); e != api.OK {
		return nil, e
	}
	var l []api.Gauss
	for bits := range labelsOf(order) {
		l = append(l, pointOf(bits))
	}
	return l, api.OK
}

// Modulated returns the points of bits.
func Modulated(order int, bits []int) ([]api.Gauss, api.Errno) {
	if e := cmp.Or(orderError(order), bitsError(bits, api.MaxSymbolBits)); e != api.OK {
		return nil, e
	}
	if len(bits)%order != 0 {
		return nil, api.ErrShape
	}
	var l []api.Gauss
	for label := range slices.Chunk(bits, order) {
		l = append(l, pointOf(label))
	}
	return l, api.OK
}

// levelOf is for at least one bit.
func levelOf(bits []int) int {
	sign, others := 1-2*bits[0], bits[1:]
	if len(others) == 0 {
		return sign
	}
	return sign * (1<<len(others) - levelOf(others))
}

// pointOf is for at least two bits.
func pointOf(bits []int) api.Gauss {
	var parts [2][]int
	for i, b := range bits {
		parts[i%2] = append(parts[i%2], b)
	}
	return api.Gauss{Re: levelOf(parts[0]), Im: levelOf(parts[1])}
}
