package code

import (
	"cmp"
	"slices"

	"downtilt/api"
)

// CheckPolar returns the first error of a polar code.
func CheckPolar(c api.CodePolar) api.Errno {
	if !isWithin(c.Power, 0, api.MaxCodePower) {
		return api.ErrRange
	}
	if len(c.Info) == 0 {
		return api.ErrShape
	}
	before := -1
	for _, position := range c.Info {
		if !isWithin(position, 0, 1<<c.Power-1) {
			return api.ErrRange
		}
		if position <= before {
			return api.ErrOrder
		}
		before = position
	}
	return api.OK
}

// Positions returns the positions that have the most ones, of several with as many the greater ones.
func Positions(power, count int) ([]int, api.Errno) {
	if !isWithin(power, 0, api.MaxCodePower) || !isWithin(count, 1, 1<<power) {
		return nil, api.ErrRange
	}
	all := make([]int, 1<<power)
	for i := range all {
		all[i] = i
	}
	slices.SortFunc(all, func(a, b int) int {
		return cmp.Or(cmp.Compare(onesOf(b), onesOf(a)), cmp.Compare(b, a))
	})
	best := all[:count]
	slices.Sort(best)
	return best, api.OK
}

// onesOf is how many ones a number has, written as a binary number.
func onesOf(n int) int {
	ones := 0
	for ; n > 0; n /= 2 {
		ones += n % 2
	}
	return ones
}

// Encode returns the word of bits.
func Encode(c api.CodePolar, bits []int) ([]int, api.Errno) {
	e := firstError(
		CheckPolar(c),
		bitsError(bits),
		unless(len(bits) == len(c.Info), api.ErrShape))
	if e != api.OK {
		return nil, e
	}
	return encoded(c, bits), api.OK
}

// Decode returns the bits that successive cancellation finds.
func Decode(c api.CodePolar, soft []int) ([]int, api.Errno) {
	if e := firstError(CheckPolar(c), softError(soft)); e != api.OK {
		return nil, e
	}
	if len(soft) != 1<<c.Power {
		return nil, api.ErrShape
	}
	return decoded(c, soft), api.OK
}

// DistanceOf returns the distance of a polar code, and bits whose word has so many ones.
func DistanceOf(c api.CodePolar) (int, []int, api.Errno) {
	if e := CheckPolar(c); e != api.OK {
		return 0, nil, e
	}
	first := 0
	for k, position := range c.Info {
		if onesOf(position) < onesOf(c.Info[first]) {
			first = k
		}
	}
	bits := make([]int, len(c.Info))
	bits[first] = 1
	return 1 << onesOf(c.Info[first]), bits, api.OK
}

func encoded(c api.CodePolar, bits []int) []int {
	positions := make([]int, 1<<c.Power)
	for k, position := range c.Info {
		positions[position] = bits[k]
	}
	return wordOf(positions)
}

// wordOf is the word that the positions give, all of them.
func wordOf(positions []int) []int {
	word := make([]int, len(positions))
	for j := range word {
		for i, b := range positions {
			if i&j == j {
				word[j] ^= b
			}
		}
	}
	return word
}

// decoded is for 2^Power soft bits, of any sizes up to those of sums.
func decoded(c api.CodePolar, soft []int) []int {
	isInfo := make([]bool, len(soft))
	for _, position := range c.Info {
		isInfo[position] = true
	}
	positions := cancelled(isInfo, soft)
	found := make([]int, len(c.Info))
	for k, position := range c.Info {
		found[k] = positions[position]
	}
	return found
}

// cancelled finds all positions by successive cancellation.
func cancelled(isInfo []bool, soft []int) []int {
	if len(soft) == 1 {
		if isInfo[0] && soft[0] < 0 {
			return []int{1}
		}
		return []int{0}
	}
	half := len(soft) / 2
	a, b := soft[:half], soft[half:]
	below := make([]int, half)
	for i := range below {
		below[i] = lesser(a[i], b[i])
	}
	first := cancelled(isInfo[:half], below)
	for i, v := range wordOf(first) {
		if v == 1 {
			below[i] = b[i] - a[i]
		} else {
			below[i] = b[i] + a[i]
		}
	}
	return slices.Concat(first, cancelled(isInfo[half:], below))
}

// lesser has the lesser size of two numbers, and the sign of their product.
func lesser(a, b int) int {
	least := min(max(a, -a), max(b, -b))
	if (a < 0) != (b < 0) {
		return -least
	}
	return least
}
