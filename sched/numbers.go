package sched

import (
	"cmp"
	"math/bits"
)

// fraction is num / den, num from 0 on and den above 0.
type fraction struct{ num, den int }

// compared multiplies crosswise; the products are beyond an int.
func (a fraction) compared(b fraction) int {
	aHigh, aLow := bits.Mul64(uint64(a.num), uint64(b.den))
	bHigh, bLow := bits.Mul64(uint64(b.num), uint64(a.den))
	return cmp.Or(cmp.Compare(aHigh, bHigh), cmp.Compare(aLow, bLow))
}

// roundedDown is a / b, b above 0. The division of the language rounds towards 0.
func roundedDown(a, b int) int {
	rest := (a%b + b) % b
	return (a - rest) / b
}

// roundedUp is a / b, a from 0 on and b above 0.
func roundedUp(a, b int) int {
	return (a + b - 1) / b
}

// commonDivisor is the greatest one of numbers from 0 on, of which the last one is above 0.
func commonDivisor(numbers ...int) int {
	a := 0
	for _, b := range numbers {
		for b != 0 {
			a, b = b, a%b
		}
	}
	return a
}
