package beam

import (
	"sort"

	"downtilt/api"
)

// tiltFactor is what a pattern loses at one width from its direction.
const tiltFactor = 120

// CheckSplit returns how much power a split uses.
func CheckSplit(p api.BeamPanel, l []int) (int, api.Errno) {
	e := firstError(
		panelError(p),
		unless(len(l) <= api.MaxBeamSplit, api.ErrLarge),
		itemsError(l, within(0, p.Most)))
	if e != api.OK {
		return 0, e
	}
	used := usedAt(p.Most, l)
	if used > p.Power {
		return 0, api.ErrBreak
	}
	return used, api.OK
}

// SplitOf returns the fair split for what beams want.
func SplitOf(p api.BeamPanel, wants []int) ([]int, api.Errno) {
	e := firstError(
		panelError(p),
		unless(len(wants) <= api.MaxBeamSplit, api.ErrLarge),
		itemsError(wants, within(0, api.MaxBeamPower)))
	if e != api.OK {
		return nil, e
	}
	level := levelOf(p, wants)
	left := 0
	if level < p.Most {
		left = p.Power - usedAt(level, wants)
	}
	l := make([]int, len(wants))
	for i, want := range wants {
		l[i] = min(want, level)
		if want > level && left > 0 {
			l[i]++
			left--
		}
	}
	return l, api.OK
}

// TiltLoss returns the loss of a tilted pattern at an angle.
func TiltLoss(t api.BeamTilt, angle int) (int, api.Errno) {
	e := firstError(
		unless(isAngle(t.Down), api.ErrRange),
		unless(isWithin(t.Width, 1, api.MaxBeamAngle), api.ErrRange),
		unless(isWithin(t.Most, 0, api.MaxBeamLoss), api.ErrRange),
		unless(isAngle(angle), api.ErrRange))
	if e != api.OK {
		return 0, e
	}
	from := angle - t.Down
	return min(tiltFactor*from*from/(t.Width*t.Width), t.Most), api.OK
}

func isAngle(n int) bool {
	return isWithin(n, -api.MaxBeamAngle, api.MaxBeamAngle)
}

func panelError(p api.BeamPanel) api.Errno {
	return firstError(
		unless(isWithin(p.Power, 0, api.MaxBeamPower), api.ErrRange),
		unless(isWithin(p.Most, 0, api.MaxBeamPower), api.ErrRange))
}

// usedAt is the power of all beams if none gets more than it wants, nor more than the level.
func usedAt(level int, wants []int) int {
	used := 0
	for _, want := range wants {
		used += min(want, level)
	}
	return used
}

// levelOf is the greatest level for which the power does.
func levelOf(p api.BeamPanel, wants []int) int {
	return sort.Search(p.Most, func(below int) bool { return usedAt(below+1, wants) > p.Power })
}
