package station

import "downtilt/api"

// TotalOf returns the total of readings.
func TotalOf(readings []int) (int, api.Errno) {
	if e := readingsError(readings); e != api.OK {
		return 0, e
	}
	return totalOf(readings), api.OK
}

// RateOf returns the total of readings, divided by that of other ones.
func RateOf(good, all []int) (api.Frac, api.Errno) {
	e := firstError(
		readingsError(good),
		readingsError(all))
	if e != api.OK {
		return api.Frac{}, e
	}
	part, whole := totalOf(good), totalOf(all)
	e = firstError(
		unless(whole > 0, api.ErrZero),
		unless(part <= whole, api.ErrBreak))
	if e != api.OK {
		return api.Frac{}, e
	}
	d := divisorOf(part, whole)
	return api.Frac{Num: part / d, Den: whole / d}, api.OK
}

func readingsError(readings []int) api.Errno {
	e := unless(len(readings) <= api.MaxStationReadings, api.ErrLarge)
	if e != api.OK {
		return e
	}
	for _, reading := range readings {
		e = firstError(e, readingError(reading))
	}
	return e
}

func readingError(reading int) api.Errno {
	return rangeError(reading, 0, api.StationWrap-1)
}

// totalOf is for readings that are right.
func totalOf(readings []int) int {
	total := 0
	for i := 1; i < len(readings); i++ {
		total += (readings[i] - readings[i-1] + api.StationWrap) % api.StationWrap
	}
	return total
}

// divisorOf is the greatest common divisor of numbers, the second of which is above 0.
func divisorOf(a, b int) int {
	for b > 0 {
		a, b = b, a%b
	}
	return a
}
