package beam

import (
	"cmp"
	"math/bits"

	"downtilt/api"
)

// Larger tells which of two squares is greater.
func Larger(a, b api.BeamSquare) (int, api.Errno) {
	parts := []int{a.P, a.Q, b.P, b.Q}
	if e := itemsError(parts, within(-api.MaxBeamSquare, api.MaxBeamSquare)); e != api.OK {
		return 0, e
	}
	return compared(a, b), api.OK
}

// asComplex is exact: a part of a channel is a small whole number, and so are all sums and products that are made of them.
func asComplex(g api.Gauss) complex128 {
	return complex(float64(g.Re), float64(g.Im))
}

// asGauss is for numbers whose parts are whole.
func asGauss(z complex128) api.Gauss {
	return api.Gauss{Re: int(real(z)), Im: int(imag(z))}
}

// turnedSum is the sum of all numbers times w to the power of their phases, without those that are off. Even powers of w are powers of i, and odd ones are those times w.
func turnedSum(phases []int, l []complex128) api.BeamNumber {
	powers := [turn / 2]complex128{1, 1i, -1, -1i}
	var sums [2]complex128
	for i, phase := range phases {
		if phase != off {
			sums[phase%2] += powers[phase/2] * l[i]
		}
	}
	even, odd := asGauss(sums[0]), asGauss(sums[1])
	return api.BeamNumber{A: even.Re, B: odd.Re, C: even.Im, D: odd.Im}
}

func squareOf(x api.BeamNumber) api.BeamSquare {
	return api.BeamSquare{
		P: x.A*x.A + x.B*x.B + x.C*x.C + x.D*x.D,
		Q: x.A*x.B + x.B*x.C + x.C*x.D - x.A*x.D,
	}
}

// compared brings both P to one side and both Q to the other one. If these have the same sign their squares tell, which are beyond an int.
func compared(a, b api.BeamSquare) int {
	p, q := a.P-b.P, b.Q-a.Q
	sign := cmp.Compare(p, 0)
	if sign != cmp.Compare(q, 0) {
		return cmp.Compare(sign, cmp.Compare(q, 0))
	}
	pHigh, pLow := bits.Mul64(uint64(sign*p), uint64(sign*p))
	qHigh, qLow := bits.Mul64(uint64(sign*q), uint64(sign*q*2))
	return sign * cmp.Or(cmp.Compare(pHigh, qHigh), cmp.Compare(pLow, qLow))
}
