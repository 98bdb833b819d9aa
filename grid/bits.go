package grid

import (
	"slices"
	"strings"

	"downtilt/api"
)

// How many broadcast bits tell a number of parts, a number of signals, and a kind.
const (
	partsBits   = 3
	signalsBits = 4
	kindBits    = 3
)

// BitsOf returns the broadcast bits of a carrier.
func BitsOf(c api.GridCarrier) ([]int, api.Errno) {
	if _, e := CheckCarrier(c); e != api.OK {
		return nil, e
	}
	bits := appendFields(nil, carrierFields(&c))
	bits = appendNumber(bits, len(c.Parts), partsBits)
	for _, p := range c.Parts {
		bits = appendFields(bits, partFields(&p))
	}
	bits = appendNumber(bits, len(c.Signals), signalsBits)
	for _, s := range c.Signals {
		s.Slot++ // GridEach has no sign in the bits
		bits = appendNumber(bits, s.Kind, kindBits)
		bits = appendFields(bits, signalFields(&s))
	}
	return append(bits, onesOf(bits)%2), api.OK
}

// FromBits returns the carrier of that name that has these broadcast bits.
func FromBits(name string, bits []int) (api.GridCarrier, api.Errno) {
	e := firstError(
		unless(isName(name), api.ErrName),
		unless(!slices.ContainsFunc(bits, isNoBit), api.ErrForm),
		unless(len(bits) <= api.MaxGridBits, api.ErrLarge),
		unless(onesOf(bits)%2 == 0, api.ErrSum))
	if e != api.OK {
		return api.GridCarrier{}, e
	}
	r := bitReader{left: bits}
	c := r.carrier()
	c.Name = strings.Clone(name)
	if r.short || len(r.left) != 1 { // one bit is left, which makes the ones even
		return api.GridCarrier{}, api.ErrShape
	}
	if _, e := CheckCarrier(c); e != api.OK {
		return api.GridCarrier{}, e
	}
	return c, api.OK
}

func appendFields(bits []int, fields []field) []int {
	for _, f := range fields {
		bits = appendNumber(bits, *f.number, f.bits)
	}
	return bits
}

func appendNumber(bits []int, n, count int) []int {
	for i := count - 1; i >= 0; i-- {
		bits = append(bits, n>>i&1)
	}
	return bits
}

func isNoBit(n int) bool {
	return n != 0 && n != 1
}

func onesOf(bits []int) int {
	ones := 0
	for _, b := range bits {
		if b == 1 {
			ones++
		}
	}
	return ones
}

// bitReader takes numbers from the front of bits. Once they were too short, all its numbers are 0.
type bitReader struct {
	left  []int
	short bool
}

func (r *bitReader) carrier() api.GridCarrier {
	var c api.GridCarrier
	r.fields(carrierFields(&c))
	for range r.number(partsBits) {
		var p api.GridPart
		r.fields(partFields(&p))
		c.Parts = append(c.Parts, p)
	}
	for range r.number(signalsBits) {
		var s api.GridSignal
		s.Kind = r.number(kindBits)
		r.fields(signalFields(&s))
		s.Slot--
		c.Signals = append(c.Signals, s)
	}
	return c
}

func (r *bitReader) fields(fields []field) {
	for _, f := range fields {
		*f.number = r.number(f.bits)
	}
}

func (r *bitReader) number(count int) int {
	r.short = r.short || len(r.left) < count
	if r.short {
		return 0
	}
	n := 0
	for _, b := range r.left[:count] {
		n = 2*n + b
	}
	r.left = r.left[count:]
	return n
}
