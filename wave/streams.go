package wave

import "downtilt/api"

// Stream returns the stream of symbols.
func Stream(l [][subcarriers]api.Gauss, guard int) ([]api.WaveNumber, api.Errno) {
	e := firstError(
		unless(len(l) > 0, api.ErrShape),
		unless(len(l) <= api.MaxWaveSymbols, api.ErrLarge),
		itemsError(l, func(x [subcarriers]api.Gauss) api.Errno { return entriesError(x[:]) }),
		guardError(guard))
	if e != api.OK {
		return nil, e
	}
	var stream []api.WaveNumber
	for _, x := range l {
		samples := samplesOf(x)
		stream = append(stream, samples[subcarriers-guard:]...)
		stream = append(stream, samples[:]...)
	}
	return stream, api.OK
}

// SymbolOf returns the samples of a symbol of a stream.
func SymbolOf(l []api.WaveNumber, guard, symbol int) ([subcarriers]api.WaveNumber, api.Errno) {
	if e := firstError(samplesError(l), guardError(guard)); e != api.OK {
		return [subcarriers]api.WaveNumber{}, e
	}
	length := guard + subcarriers
	if !isWithin(symbol, 0, len(l)/length-1) {
		return [subcarriers]api.WaveNumber{}, api.ErrMissing
	}
	behind := (symbol + 1) * length
	return [subcarriers]api.WaveNumber(l[behind-subcarriers : behind]), api.OK
}
