package wave

import (
	"cmp"
	"math/bits"

	"downtilt/api"
)

// turn is how many eighths a whole turn has.
const turn = 8

// Turned returns a number times w to the power eighths.
func Turned(x api.WaveNumber, eighths int) (api.WaveNumber, api.Errno) {
	if e := firstError(smallError(x), eighthsError(eighths)); e != api.OK {
		return api.WaveNumber{}, e
	}
	return turned(x, eighths), api.OK
}

// Product returns the product of two numbers.
func Product(a, b api.WaveNumber) (api.WaveNumber, api.Errno) {
	if e := smallError(a, b); e != api.OK {
		return api.WaveNumber{}, e
	}
	x := product(a, b)
	if e := resultError(x); e != api.OK {
		return api.WaveNumber{}, e
	}
	return x, api.OK
}

// SquareOf returns the square of a number's size.
func SquareOf(x api.WaveNumber) (api.WaveSquare, api.Errno) {
	if e := partsError(api.MaxWaveRoot, x.A, x.B, x.C, x.D); e != api.OK {
		return api.WaveSquare{}, e
	}
	return squareOf(x), api.OK
}

// Compared tells which of two squares is greater.
func Compared(a, b api.WaveSquare) (int, api.Errno) {
	if e := partsError(api.MaxWaveSquare, a.P, a.Q, b.P, b.Q); e != api.OK {
		return 0, e
	}
	return compared(a, b), api.OK
}

// numberOf makes a number of a whole complex one.
func numberOf(g api.Gauss) api.WaveNumber {
	return api.WaveNumber{A: g.Re, C: g.Im}
}

// turned is for any eighths, also below 0.
func turned(x api.WaveNumber, eighths int) api.WaveNumber {
	for range modulo(eighths, turn) {
		x = api.WaveNumber{A: -x.D, B: x.A, C: x.B, D: x.C}
	}
	return x
}

func sum(l ...api.WaveNumber) api.WaveNumber {
	var s api.WaveNumber
	for _, x := range l {
		s = api.WaveNumber{A: s.A + x.A, B: s.B + x.B, C: s.C + x.C, D: s.D + x.D}
	}
	return s
}

func times(n int, x api.WaveNumber) api.WaveNumber {
	return api.WaveNumber{A: n * x.A, B: n * x.B, C: n * x.C, D: n * x.D}
}

// product fits for small numbers: a part of it is at most 4 * 10^18 in size.
func product(a, b api.WaveNumber) api.WaveNumber {
	var x api.WaveNumber
	for power, part := range [4]int{a.A, a.B, a.C, a.D} {
		x = sum(x, times(part, turned(b, power)))
	}
	return x
}

// conjugate has w to the power -1, which is that of w to the power 3 with the other sign, for w.
func conjugate(x api.WaveNumber) api.WaveNumber {
	return api.WaveNumber{A: x.A, B: -x.D, C: -x.C, D: -x.B}
}

func squareOf(x api.WaveNumber) api.WaveSquare {
	return api.WaveSquare{
		P: x.A*x.A + x.B*x.B + x.C*x.C + x.D*x.D,
		Q: x.A*x.B + x.B*x.C + x.C*x.D - x.A*x.D,
	}
}

// compared brings both P to one side and both Q to the other one. If these have the same sign their squares tell, which are beyond an int.
func compared(a, b api.WaveSquare) int {
	p, q := a.P-b.P, b.Q-a.Q
	sign := cmp.Compare(p, 0)
	if sign != cmp.Compare(q, 0) {
		return cmp.Compare(sign, cmp.Compare(q, 0))
	}
	pHigh, pLow := bits.Mul64(uint64(sign*p), uint64(sign*p))
	qHigh, qLow := bits.Mul64(uint64(sign*q), uint64(sign*q*2))
	return sign * cmp.Or(cmp.Compare(pHigh, qHigh), cmp.Compare(pLow, qLow))
}
