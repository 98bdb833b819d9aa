package beam

import (
	"slices"

	"downtilt/api"
)

// PowerOf returns the power of a beam for a channel.
func PowerOf(b api.BeamBeam, h []api.Gauss) (api.BeamSquare, api.Errno) {
	e := firstError(
		beamError(b),
		channelError(h),
		unless(len(b.Phases) == len(h), api.ErrClash))
	if e != api.OK {
		return api.BeamSquare{}, e
	}
	return powerOf(b, h), api.OK
}

// Sweep returns the numbers of all beams of a book, those with greater power first.
func Sweep(l []api.BeamBeam, h []api.Gauss) ([]int, api.Errno) {
	if e := sweepError(l, h); e != api.OK {
		return nil, e
	}
	return sweep(l, h), api.OK
}

// BestOf returns the number of the first beam of a book that has the greatest power.
func BestOf(l []api.BeamBeam, h []api.Gauss) (int, api.Errno) {
	if e := sweepError(l, h); e != api.OK {
		return 0, e
	}
	return sweep(l, h)[0], api.OK
}

func sweepError(l []api.BeamBeam, h []api.Gauss) api.Errno {
	fits := func(b api.BeamBeam) api.Errno {
		return unless(len(b.Phases) == len(h), api.ErrClash)
	}
	return firstError(
		unless(len(l) > 0, api.ErrShape),
		unless(len(l) <= api.MaxBeamBook, api.ErrLarge),
		itemsError(l, beamError),
		channelError(h),
		itemsError(l, fits))
}

// sweep sorts in such a way that beams with equal power stay in their order.
func sweep(l []api.BeamBeam, h []api.Gauss) []int {
	numbers := make([]int, len(l))
	powers := make([]api.BeamSquare, len(l))
	for i, b := range l {
		numbers[i], powers[i] = i, powerOf(b, h)
	}
	slices.SortStableFunc(numbers, func(i, j int) int { return compared(powers[j], powers[i]) })
	return numbers
}

func powerOf(b api.BeamBeam, h []api.Gauss) api.BeamSquare {
	return squareOf(turnedSum(b.Phases, complexOf(h)))
}
