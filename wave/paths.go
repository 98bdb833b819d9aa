package wave

import "downtilt/api"

// CheckPaths returns the number of the first path that has an error, and that error.
func CheckPaths(l []api.WavePath) (int, api.Errno) {
	e := firstError(
		unless(len(l) > 0, api.ErrShape),
		unless(len(l) <= api.MaxWavePaths, api.ErrLarge))
	if e != api.OK {
		return 0, e
	}
	before := -1
	return firstWrong(l, func(p api.WavePath) api.Errno {
		e := pathError(p, before)
		before = p.Delay
		return e
	})
}

// pathError is the first error of a path behind one of that delay.
func pathError(p api.WavePath, before int) api.Errno {
	return firstError(
		unless(isWithin(p.Delay, 0, api.MaxWaveGuard), api.ErrRange),
		partsError(api.MaxWaveGain, p.Gain.Re, p.Gain.Im),
		unless(p.Delay > before, api.ErrOrder))
}

func pathsError(l []api.WavePath) api.Errno {
	_, e := CheckPaths(l)
	return e
}

// Through returns what paths make of samples.
func Through(l []api.WavePath, x []api.WaveNumber) ([]api.WaveNumber, api.Errno) {
	if e := firstError(pathsError(l), samplesError(x)); e != api.OK {
		return nil, e
	}
	y := make([]api.WaveNumber, len(x))
	for _, p := range l {
		for n := p.Delay; n < len(x); n++ {
			y[n] = sum(y[n], product(numberOf(p.Gain), x[n-p.Delay]))
		}
	}
	if e := resultError(y...); e != api.OK {
		return nil, e
	}
	return y, api.OK
}

// ResponseOf returns the response of paths.
func ResponseOf(l []api.WavePath) ([subcarriers]api.WaveNumber, api.Errno) {
	if e := pathsError(l); e != api.OK {
		return [subcarriers]api.WaveNumber{}, e
	}
	var response [subcarriers]api.WaveNumber
	for k := range response {
		for _, p := range l {
			response[k] = sum(response[k], turned(numberOf(p.Gain), -k*p.Delay))
		}
	}
	return response, api.OK
}
