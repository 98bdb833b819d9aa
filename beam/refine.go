package beam

import "downtilt/api"

// Refined returns the looks of refining for a user in a direction, and the step with which it ends.
func Refined(step int) ([]api.BeamLook, int, api.Errno) {
	if e := stepError(step); e != api.OK {
		return nil, 0, e
	}
	var all []api.BeamLook
	k := 0
	for further := 1; further < turn; further *= 2 {
		looks := map[int]api.BeamLook{}
		for _, to := range [2]int{k, k + further} {
			looks[to] = lookAlong(to, turn/2/further, step)
			all = append(all, looks[to])
		}
		if compared(looks[k+further].Gain, looks[k].Gain) > 0 {
			k += further
		}
	}
	return all, k, api.OK
}

// lookAlong is the look, for a user in a direction, along a steering beam for k of a whole panel. Only the antennas whose numbers are multiples of apart are on.
func lookAlong(k, apart, step int) api.BeamLook {
	b := steering(api.BeamAntennas, k, apart)
	return api.BeamLook{Beam: b, Gain: squareOf(responseOf(b, step))}
}
