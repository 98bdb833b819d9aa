package access

import "downtilt/api"

// CheckRules finds what is wrong with rules.
func CheckRules(r api.AccessRules) api.Errno {
	return firstError(
		rangeError(r.Preambles, 1, api.MaxAccessPreambles),
		rangeError(r.Every, 1, api.MaxAccessEvery),
		rangeError(r.Window, 1, api.MaxAccessWindow),
		rangeError(r.Wait, 1, api.MaxAccessWindow),
		rangeError(r.Tries, 1, api.MaxAccessTries),
		rangeError(r.Backoff, 0, api.MaxAccessBackoff),
		rangeError(r.Identities, 1, api.MaxAccessIdentities))
}

// NextChance returns the least chance from a tick on.
func NextChance(r api.AccessRules, at int) (int, api.Errno) {
	e := firstError(
		CheckRules(r),
		tickError(at))
	if e != api.OK {
		return 0, e
	}
	chance := roundedUp(at, r.Every) * r.Every
	if chance > api.MaxTick {
		return 0, api.ErrNone
	}
	return chance, api.OK
}

func drawsError(draws []int) api.Errno {
	e := firstError(
		unless(len(draws) > 0, api.ErrShape),
		unless(len(draws) <= api.MaxAccessPhones, api.ErrLarge))
	for _, draw := range draws {
		e = firstError(e, drawError(draw))
	}
	return e
}

func drawError(draw int) api.Errno {
	return rangeError(draw, 0, api.GeneratorPrime-1)
}

// nextDraw is for draws that are right.
func nextDraw(draw int) int {
	return (api.AccessFactor*draw + 1) % api.GeneratorPrime
}
