package beam

import (
	"slices"

	"downtilt/api"
)

// CheckBeam returns the number of the first antenna that has an error, and the error of the beam.
func CheckBeam(b api.BeamBeam) (int, api.Errno) {
	e := firstError(
		unless(len(b.Phases) > 0, api.ErrShape),
		unless(len(b.Phases) <= api.BeamAntennas, api.ErrLarge))
	if e != api.OK {
		return 0, e
	}
	if antenna, e := firstWrong(b.Phases, within(off, turn-1)); e != api.OK {
		return antenna, e
	}
	isOn := func(phase int) bool { return phase != off }
	return 0, unless(slices.ContainsFunc(b.Phases, isOn), api.ErrZero)
}

// Steering returns the steering beam of so many antennas for a step.
func Steering(antennas, step int) (api.BeamBeam, api.Errno) {
	e := firstError(
		unless(isWithin(antennas, 1, api.BeamAntennas), api.ErrRange),
		stepError(step))
	if e != api.OK {
		return api.BeamBeam{}, e
	}
	return steering(antennas, step, 1), api.OK
}

// ResponseOf returns the response of a beam in a direction.
func ResponseOf(b api.BeamBeam, step int) (api.BeamNumber, api.Errno) {
	if e := firstError(beamError(b), stepError(step)); e != api.OK {
		return api.BeamNumber{}, e
	}
	return responseOf(b, step), api.OK
}

// GainOf returns the gain of a beam in a direction.
func GainOf(b api.BeamBeam, step int) (api.BeamSquare, api.Errno) {
	if e := firstError(beamError(b), stepError(step)); e != api.OK {
		return api.BeamSquare{}, e
	}
	return squareOf(responseOf(b, step)), api.OK
}

// Nulls returns all nulls of a beam.
func Nulls(b api.BeamBeam) ([]int, api.Errno) {
	if e := beamError(b); e != api.OK {
		return nil, e
	}
	var nulls []int
	for step := range turn {
		if responseOf(b, step) == (api.BeamNumber{}) {
			nulls = append(nulls, step)
		}
	}
	return nulls, api.OK
}

// steering has only the antennas on whose numbers are multiples of apart.
func steering(antennas, step, apart int) api.BeamBeam {
	phases := make([]int, antennas)
	for i := range phases {
		phases[i] = off
		if i%apart == 0 {
			phases[i] = (turn - step) * i % turn
		}
	}
	return api.BeamBeam{Phases: phases}
}

// responseOf is for right beams and steps.
func responseOf(b api.BeamBeam, step int) api.BeamNumber {
	ahead := make([]int, len(b.Phases))
	ones := make([]complex128, len(b.Phases))
	for i, phase := range b.Phases {
		ones[i] = 1
		ahead[i] = off
		if phase != off {
			ahead[i] = (phase + i*step) % turn
		}
	}
	return turnedSum(ahead, ones)
}
