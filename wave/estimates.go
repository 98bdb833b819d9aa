package wave

import "downtilt/api"

// maxBend is how many numbers a list with a bend has at most.
const maxBend = 800

// EstimatesOf returns the estimates at all reference symbols.
func EstimatesOf(known, x []api.Gauss) ([]api.Gauss, api.Errno) {
	e := firstError(
		unless(len(known) <= api.MaxWaveReferences, api.ErrLarge),
		unless(len(x) == len(known), api.ErrShape),
		itemsError(known, referenceError),
		entriesError(x))
	if e != api.OK {
		return nil, e
	}
	l := make([]api.Gauss, len(x))
	for i, k := range known {
		l[i] = api.Gauss{
			Re: x[i].Re*k.Re + x[i].Im*k.Im,
			Im: x[i].Im*k.Re - x[i].Re*k.Im,
		}
	}
	return l, api.OK
}

func referenceError(known api.Gauss) api.Errno {
	switch known {
	case api.Gauss{Re: 1}, api.Gauss{Im: 1}, api.Gauss{Re: -1}, api.Gauss{Im: -1}:
		return api.OK
	}
	return api.ErrForm
}

// Interpolated returns the values from the first estimate's subcarrier to the last one's.
func Interpolated(l []api.Gauss, step int) ([]api.Phasor, api.Errno) {
	e := firstError(
		unless(len(l) > 0, api.ErrShape),
		unless(len(l) <= api.MaxWaveReferences, api.ErrLarge),
		entriesError(l),
		unless(isWithin(step, 1, api.MaxWaveStep), api.ErrRange))
	if e != api.OK {
		return nil, e
	}
	var values []api.Phasor
	for i, next := range l[1:] {
		for k := range step {
			values = append(values, between(l[i], next, k, step))
		}
	}
	last := l[len(l)-1]
	return append(values, between(last, last, 0, step)), api.OK
}

// between is the value k of so many steps from a to b.
func between(a, b api.Gauss, k, steps int) api.Phasor {
	re := a.Re*(steps-k) + b.Re*k
	im := a.Im*(steps-k) + b.Im*k
	d := commonDivisor(steps, commonDivisor(re, im))
	return api.Phasor{Re: re / d, Im: im / d, Den: steps / d}
}

// commonDivisor is the greatest one, and 0 of 0 and 0.
func commonDivisor(a, b int) int {
	for b != 0 {
		a, b = b, a%b
	}
	return max(a, -a)
}

// BendOf returns the bend of a list.
func BendOf(l []api.Gauss) (int, api.Errno) {
	if e := firstError(unless(len(l) <= maxBend, api.ErrLarge), entriesError(l)); e != api.OK {
		return 0, e
	}
	bend := 0
	for i := 2; i < len(l); i++ {
		re := l[i].Re - 2*l[i-1].Re + l[i-2].Re
		im := l[i].Im - 2*l[i-1].Im + l[i-2].Im
		bend = max(bend, re, -re, im, -im)
	}
	return bend, api.OK
}
