package beam

import (
	"slices"

	"downtilt/api"
)

// InnerOf returns the inner product of two channels.
func InnerOf(g, h []api.Gauss) (api.Gauss, api.Errno) {
	if e := twoError(g, h); e != api.OK {
		return api.Gauss{}, e
	}
	return asGauss(inner(complexOf(g), complexOf(h))), api.OK
}

// PartOf returns the part of h along g.
func PartOf(g, h []api.Gauss) (api.Frac, api.Errno) {
	if e := twoChannelsError(g, h); e != api.OK {
		return api.Frac{}, e
	}
	return partOf(g, h), api.OK
}

// Cleared returns the channel h cleared of g.
func Cleared(g, h []api.Gauss) ([]api.Gauss, api.Errno) {
	if e := twoChannelsError(g, h); e != api.OK {
		return nil, e
	}
	along, cleared := complexOf(g), complexOf(h)
	product, energy := inner(along, cleared), inner(along, along)
	l := make([]api.Gauss, len(h))
	for i := range l {
		l[i] = asGauss(energy*cleared[i] - product*along[i])
	}
	return l, api.OK
}

// KeptOf returns what is kept of h if it is cleared of g.
func KeptOf(g, h []api.Gauss) (api.Frac, api.Errno) {
	if e := twoChannelsError(g, h); e != api.OK {
		return api.Frac{}, e
	}
	part := partOf(g, h)
	return api.Frac{Num: part.Den - part.Num, Den: part.Den}, api.OK
}

// MayShare tells whether two users may share a resource.
func MayShare(g, h []api.Gauss, most api.Frac) (bool, api.Errno) {
	if e := firstError(twoChannelsError(g, h), mostError(most)); e != api.OK {
		return false, e
	}
	return mayShare(g, h, most), api.OK
}

func channelError(h []api.Gauss) api.Errno {
	part := within(-api.MaxBeamPart, api.MaxBeamPart)
	return firstError(
		unless(len(h) > 0, api.ErrShape),
		unless(len(h) <= api.BeamAntennas, api.ErrLarge),
		itemsError(h, func(g api.Gauss) api.Errno { return firstError(part(g.Re), part(g.Im)) }))
}

// twoError is of two channels that may be 0.
func twoError(g, h []api.Gauss) api.Errno {
	return firstError(channelError(g), channelError(h), unless(len(g) == len(h), api.ErrClash))
}

func twoChannelsError(g, h []api.Gauss) api.Errno {
	return firstError(twoError(g, h), unless(isHeard(g) && isHeard(h), api.ErrZero))
}

// isHeard tells whether not all numbers of a channel are 0.
func isHeard(h []api.Gauss) bool {
	return slices.ContainsFunc(h, func(g api.Gauss) bool { return g != api.Gauss{} })
}

// mostError is the first error of a greatest part.
func mostError(most api.Frac) api.Errno {
	return firstError(
		unless(most.Den > 0 && commonDivisor(most.Num, most.Den) == 1, api.ErrForm),
		unless(isWithin(most.Num, 0, most.Den), api.ErrRange),
		unless(most.Den <= api.MaxPart, api.ErrRange))
}

// commonDivisor is the greatest one.
func commonDivisor(a, b int) int {
	for b != 0 {
		a, b = b, a%b
	}
	return max(a, -a)
}

func complexOf(h []api.Gauss) []complex128 {
	l := make([]complex128, len(h))
	for i, g := range h {
		l[i] = asComplex(g)
	}
	return l
}

// inner is the inner product; that of a channel and itself is its energy.
func inner(g, h []complex128) complex128 {
	var sum complex128
	for i, z := range g {
		sum += complex(real(z), -imag(z)) * h[i]
	}
	return sum
}

// partOf is for channels that are heard.
func partOf(g, h []api.Gauss) api.Frac {
	product := asGauss(inner(complexOf(g), complexOf(h)))
	num := product.Re*product.Re + product.Im*product.Im
	den := energyOf(g) * energyOf(h)
	d := commonDivisor(num, den)
	return api.Frac{Num: num / d, Den: den / d}
}

func energyOf(h []api.Gauss) int {
	l := complexOf(h)
	return int(real(inner(l, l)))
}

// mayShare multiplies crosswise: a part has a denominator of at most 2.1 * 10^8, a greatest part one of at most 10^9.
func mayShare(g, h []api.Gauss, most api.Frac) bool {
	part := partOf(g, h)
	return part.Num*most.Den <= most.Num*part.Den
}
