package wave

import "downtilt/api"

// quarter is how many points a transform with powers of i has.
const quarter = 4

// Samples returns the samples of entries.
func Samples(x [subcarriers]api.Gauss) ([subcarriers]api.WaveNumber, api.Errno) {
	if e := entriesError(x[:]); e != api.OK {
		return [subcarriers]api.WaveNumber{}, e
	}
	return samplesOf(x), api.OK
}

// Transform returns the transform of samples.
func Transform(x [subcarriers]api.WaveNumber) ([subcarriers]api.WaveNumber, api.Errno) {
	if e := smallError(x[:]...); e != api.OK {
		return [subcarriers]api.WaveNumber{}, e
	}
	y := turnedSums(x, -1)
	if e := resultError(y[:]...); e != api.OK {
		return [subcarriers]api.WaveNumber{}, e
	}
	return y, api.OK
}

// Spectrum returns the spectrum of samples.
func Spectrum(x [subcarriers]api.WaveNumber) ([subcarriers]api.Gauss, api.Errno) {
	if e := smallError(x[:]...); e != api.OK {
		return [subcarriers]api.Gauss{}, e
	}
	var spectrum [subcarriers]api.Gauss
	for k, y := range turnedSums(x, -1) {
		if y.B != 0 || y.D != 0 || y.A%subcarriers != 0 || y.C%subcarriers != 0 {
			return [subcarriers]api.Gauss{}, api.ErrForm
		}
		spectrum[k] = api.Gauss{Re: y.A / subcarriers, Im: y.C / subcarriers}
	}
	return spectrum, api.OK
}

// Four returns the samples of entries with four points.
func Four(x [quarter]api.Gauss) ([quarter]api.Gauss, api.Errno) {
	if e := fourError(x); e != api.OK {
		return [quarter]api.Gauss{}, e
	}
	return foursOf(x, 1), api.OK
}

// FourBack returns the spectrum of samples with four points.
func FourBack(x [quarter]api.Gauss) ([quarter]api.Gauss, api.Errno) {
	if e := fourError(x); e != api.OK {
		return [quarter]api.Gauss{}, e
	}
	spectrum := foursOf(x, -1)
	for k, y := range spectrum {
		if y.Re%quarter != 0 || y.Im%quarter != 0 {
			return [quarter]api.Gauss{}, api.ErrForm
		}
		spectrum[k] = api.Gauss{Re: y.Re / quarter, Im: y.Im / quarter}
	}
	return spectrum, api.OK
}

func fourError(x [quarter]api.Gauss) api.Errno {
	return itemsError(x[:], gaussWithin(api.MaxWavePart))
}

func samplesOf(x [subcarriers]api.Gauss) [subcarriers]api.WaveNumber {
	var entries [subcarriers]api.WaveNumber
	for k, g := range x {
		entries[k] = numberOf(g)
	}
	return turnedSums(entries, 1)
}

// turnedSums has at k the sum, over all n, of the number n of x times w to the power step k n.
func turnedSums(x [subcarriers]api.WaveNumber, step int) [subcarriers]api.WaveNumber {
	var y [subcarriers]api.WaveNumber
	for k := range y {
		for n, number := range x {
			y[k] = sum(y[k], turned(number, step*k*n))
		}
	}
	return y
}

// foursOf is turnedSums with four points and powers of i. The floats are exact: their parts are whole, and at most 4 * 10^9.
func foursOf(x [quarter]api.Gauss, step int) [quarter]api.Gauss {
	powers := [quarter]complex128{1, 1i, -1, -1i}
	var y [quarter]api.Gauss
	for k := range y {
		var z complex128
		for n, g := range x {
			z += complex(float64(g.Re), float64(g.Im)) * powers[modulo(step*k*n, quarter)]
		}
		y[k] = api.Gauss{Re: int(real(z)), Im: int(imag(z))}
	}
	return y
}
