package code

import "downtilt/api"

// chainError is the first error of a chain.
func chainError(c api.CodeChain) api.Errno {
	return firstError(
		CheckPoly(c.Poly),
		CheckPolar(c.Polar),
		unless(len(c.Polar.Info) > c.Poly.Degree, api.ErrShape),
		countError(c.Count))
}

// Sent returns the bits that a chain sends.
func Sent(c api.CodeChain, bits []int, version int) ([]int, api.Errno) {
	e := firstError(
		chainError(c),
		bitsError(bits),
		unless(len(bits)+c.Poly.Degree == len(c.Polar.Info), api.ErrShape),
		versionError(version))
	if e != api.OK {
		return nil, e
	}
	word := encoded(c.Polar, checked(c.Poly, bits))
	return matched(word, version, c.Count), api.OK
}

// Recovered returns the bits that a chain finds in the sums of soft bits.
func Recovered(c api.CodeChain, soft []int) ([]int, api.Errno) {
	if e := firstError(chainError(c), sumsError(soft)); e != api.OK {
		return nil, e
	}
	if len(soft) != 1<<c.Polar.Power {
		return nil, api.ErrShape
	}
	bits := decoded(c.Polar, soft)
	if !isRight(c.Poly, bits) {
		return nil, api.ErrSum
	}
	return bits[:len(bits)-c.Poly.Degree], api.OK
}
