package code

import (
	"slices"

	"downtilt/api"
)

// CheckPoly returns the first error of a polynomial.
func CheckPoly(p api.CodePoly) api.Errno {
	switch {
	case !isWithin(p.Degree, 1, api.MaxCodeDegree):
		return api.ErrRange
	case !isWithin(p.Taps, 1, maskOf(p)):
		return api.ErrRange
	case p.Taps%2 == 0:
		return api.ErrForm
	}
	return api.OK
}

// maskOf is a number with a 1 for each power of a remainder.
func maskOf(p api.CodePoly) int {
	return 1<<p.Degree - 1
}

// Remainder returns the remainder of bits.
func Remainder(p api.CodePoly, bits []int) ([]int, api.Errno) {
	if e := firstError(CheckPoly(p), bitsError(bits)); e != api.OK {
		return nil, e
	}
	return remainder(p, bits), api.OK
}

// Checked returns the bits with their check.
func Checked(p api.CodePoly, bits []int) ([]int, api.Errno) {
	if e := firstError(CheckPoly(p), bitsError(bits)); e != api.OK {
		return nil, e
	}
	return checked(p, bits), api.OK
}

// IsRight returns whether bits end with the remainder of those ahead.
func IsRight(p api.CodePoly, bits []int) (bool, api.Errno) {
	e := firstError(
		CheckPoly(p),
		bitsError(bits),
		unless(len(bits) > p.Degree, api.ErrShape))
	if e != api.OK {
		return false, e
	}
	return isRight(p, bits), api.OK
}

// remainder divides bit by bit; the division goes on behind the last bit, since the bits stand for times x to the power Degree.
func remainder(p api.CodePoly, bits []int) []int {
	rest := 0
	for _, b := range bits {
		carry := rest>>(p.Degree-1) ^ b
		rest = rest << 1 & maskOf(p)
		if carry == 1 {
			rest ^= p.Taps
		}
	}
	l := make([]int, p.Degree)
	for i := range l {
		l[i] = rest >> (p.Degree - 1 - i) & 1
	}
	return l
}

func checked(p api.CodePoly, bits []int) []int {
	return slices.Concat(bits, remainder(p, bits))
}

// isRight is for more bits than Degree.
func isRight(p api.CodePoly, bits []int) bool {
	ahead := len(bits) - p.Degree
	return slices.Equal(remainder(p, bits[:ahead]), bits[ahead:])
}
