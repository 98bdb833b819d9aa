package wave

import "downtilt/api"

// Clipped returns clipped numbers.
func Clipped(x []api.Gauss, limit int) ([]api.Gauss, api.Errno) {
	e := firstError(
		unless(len(x) <= api.MaxWaveSamples, api.ErrLarge),
		entriesError(x),
		unless(isWithin(limit, 0, api.MaxWaveEntry), api.ErrRange))
	if e != api.OK {
		return nil, e
	}
	l := make([]api.Gauss, len(x))
	for i, g := range x {
		l[i] = api.Gauss{Re: clipped(g.Re, limit), Im: clipped(g.Im, limit)}
	}
	return l, api.OK
}

func clipped(part, limit int) int {
	return max(-limit, min(part, limit))
}

// ErrorOf returns the error of two lists.
func ErrorOf(x, y []api.Gauss) (int, api.Errno) {
	e := firstError(
		unless(len(x) <= api.MaxWaveSamples, api.ErrLarge),
		unless(len(y) == len(x), api.ErrShape),
		entriesError(x),
		entriesError(y))
	if e != api.OK {
		return 0, e
	}
	squares := 0
	for i, g := range x {
		re, im := g.Re-y[i].Re, g.Im-y[i].Im
		squares += re*re + im*im
	}
	return squares, api.OK
}
