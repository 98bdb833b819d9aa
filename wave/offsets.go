package wave

import "downtilt/api"

// Shifted returns samples that are turned on by an offset.
func Shifted(x []api.WaveNumber, eighths int) ([]api.WaveNumber, api.Errno) {
	if e := firstError(samplesError(x), eighthsError(eighths)); e != api.OK {
		return nil, e
	}
	return turnedOn(x, eighths), api.OK
}

// OffsetOf returns the offset of samples.
func OffsetOf(known, x []api.WaveNumber) (int, api.Errno) {
	e := firstError(
		unless(len(known) > 0 && len(x) == len(known), api.ErrShape),
		unless(len(known) <= api.MaxWaveKnown, api.ErrLarge),
		itemsError(known, numberWithin(api.MaxWaveGain)),
		itemsError(x, numberWithin(api.MaxWaveGain)))
	if e != api.OK {
		return 0, e
	}
	products := make([]api.WaveNumber, len(x))
	for n, k := range known {
		products[n] = product(conjugate(k), x[n])
	}
	offset, greatest := 0, api.WaveSquare{}
	for f := range turn {
		square := squareOf(sum(turnedOn(products, -f)...))
		if compared(square, greatest) > 0 {
			offset, greatest = f, square
		}
	}
	return offset, api.OK
}

// turnedOn is for any eighths, also below 0.
func turnedOn(x []api.WaveNumber, eighths int) []api.WaveNumber {
	l := make([]api.WaveNumber, len(x))
	for n, number := range x {
		l[n] = turned(number, eighths*n)
	}
	return l
}
