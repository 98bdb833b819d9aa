package station

import "downtilt/api"

// DiffOf returns the signals that one of two carriers has and the other one has not.
func DiffOf(a, b api.GridCarrier) (api.StationDiff, api.Errno) {
	e := firstError(
		carrierError(a),
		carrierError(b))
	if e != api.OK {
		return api.StationDiff{}, e
	}
	return api.StationDiff{
		Added:   beside(b.Signals, a.Signals),
		Removed: beside(a.Signals, b.Signals),
	}, api.OK
}

// beside is the signals that a list has beside those of another one. Of equal signals the first ones are those of the other list.
func beside(l, others []api.GridSignal) []api.GridSignal {
	counts := map[api.GridSignal]int{}
	for _, s := range others {
		counts[s]++
	}
	var left []api.GridSignal
	for _, s := range l {
		if counts[s] == 0 {
			left = append(left, s)
		} else {
			counts[s]--
		}
	}
	return left
}
