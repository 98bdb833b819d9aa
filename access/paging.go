package access

import "downtilt/api"

// maxPagingCycle is the frames of the longest cycle.
const maxPagingCycle = 256

// CheckPaging finds what is wrong with paging.
func CheckPaging(p api.AccessPaging) api.Errno {
	switch {
	case !isWithin(p.Cycle, 1, maxPagingCycle):
		return api.ErrRange
	case p.Cycle&(p.Cycle-1) != 0: // a power of two has a single bit
		return api.ErrForm
	case !isWithin(p.Frames, 1, p.Cycle):
		return api.ErrRange
	case p.Cycle%p.Frames != 0:
		return api.ErrForm
	case subframesOf(p.Occasions) == nil:
		return api.ErrKind
	}
	return rangeError(p.Offset, 0, p.Cycle-1)
}

// OccasionOf returns the first occasion of a phone.
func OccasionOf(p api.AccessPaging, phone int) (api.AccessOccasion, api.Errno) {
	if e := pagedError(p, phone); e != api.OK {
		return api.AccessOccasion{}, e
	}
	return firstOccasion(p, phone), api.OK
}

// IsOccasion tells whether an occasion is one of a phone.
func IsOccasion(p api.AccessPaging, phone int, at api.AccessOccasion) (bool, api.Errno) {
	e := firstError(
		pagedError(p, phone),
		occasionError(at))
	if e != api.OK {
		return false, e
	}
	return pagingSleep(p, phone).isOn(tickOf(at)), api.OK
}

// NextOccasion returns the next occasion of a phone, from an occasion on.
func NextOccasion(p api.AccessPaging, phone int, at api.AccessOccasion) (api.AccessOccasion, api.Errno) {
	e := firstError(
		pagedError(p, phone),
		occasionError(at))
	if e != api.OK {
		return api.AccessOccasion{}, e
	}
	return occasionAt(pagingSleep(p, phone).nextOn(tickOf(at))), api.OK
}

// Together tells whether two phones have the same occasions.
func Together(p api.AccessPaging, a, b int) (bool, api.Errno) {
	e := firstError(
		pagedError(p, a),
		pagedNumberError(b))
	if e != api.OK {
		return false, e
	}
	return firstOccasion(p, a) == firstOccasion(p, b), api.OK
}

// SleepOf returns the sleep with which a phone is on at its occasions.
func SleepOf(p api.AccessPaging, phone int) (api.AccessSleep, api.Errno) {
	if e := pagedError(p, phone); e != api.OK {
		return api.AccessSleep{}, e
	}
	return pagingSleep(p, phone).AccessSleep, api.OK
}

// pagedError is that of paging, and of the number of a phone.
func pagedError(p api.AccessPaging, phone int) api.Errno {
	return firstError(
		CheckPaging(p),
		pagedNumberError(phone))
}

func pagedNumberError(phone int) api.Errno {
	return rangeError(phone, 0, api.MaxAccessPhone)
}

func occasionError(x api.AccessOccasion) api.Errno {
	return firstError(
		rangeError(x.Frame, 0, api.MaxFrame-1),
		rangeError(x.Subframe, 0, api.Subframes-1))
}

// subframesOf is the subframes of so many occasions, or nil if there may not be so many.
func subframesOf(occasions int) []int {
	switch occasions {
	case 1:
		return []int{9}
	case 2:
		return []int{4, 9}
	case 4:
		return []int{0, 4, 5, 9}
	}
	return nil
}

func firstOccasion(p api.AccessPaging, phone int) api.AccessOccasion {
	frame := p.Cycle/p.Frames*(phone%p.Frames) - p.Offset
	place := phone / p.Frames % p.Occasions
	return api.AccessOccasion{
		Frame:    modulo(frame, p.Cycle),
		Subframe: subframesOf(p.Occasions)[place],
	}
}

func pagingSleep(p api.AccessPaging, phone int) sleep {
	return sleep{api.AccessSleep{
		Cycle: p.Cycle * api.Subframes,
		Start: tickOf(firstOccasion(p, phone)),
		On:    1,
	}}
}

func tickOf(x api.AccessOccasion) int {
	return x.Frame*api.Subframes + x.Subframe
}

// occasionAt takes ticks behind the last frame for those of the first ones, which they are: the cycles divide the number of frames.
func occasionAt(tick int) api.AccessOccasion {
	return api.AccessOccasion{Frame: tick / api.Subframes % api.MaxFrame, Subframe: tick % api.Subframes}
}
