package plan

import (
	"slices"

	"downtilt/api"
)

// CompareDrive returns how measured levels differ from those that were predicted.
func CompareDrive(p api.PlanPlan, l []api.PlanDrive) (api.PlanCompared, api.Errno) {
	k, e := checkPlan(p)
	e = firstError(
		e,
		driveError(p.Raster, l))
	if e != api.OK {
		return api.PlanCompared{}, e
	}
	differences := k.differences(l)
	if len(differences) == 0 {
		return api.PlanCompared{}, api.ErrNone
	}
	return api.PlanCompared{
		Ends:   api.Range{Lo: slices.Min(differences), Hi: slices.Max(differences)},
		Mean:   meanOf(differences),
		Missed: k.missed(l),
	}, api.OK
}

// driveError is for rasters that are right.
func driveError(r api.PlanRaster, l []api.PlanDrive) api.Errno {
	e := countError(len(l), api.MaxPlanDrive)
	if e != api.OK {
		return e
	}
	for _, x := range l {
		e = firstError(
			e,
			pointError(r, x.At),
			rangeError(x.Level, api.MinLevel, api.MaxLevel))
	}
	return e
}

// differences is those of all measurements at points with a level.
func (k checkedPlan) differences(l []api.PlanDrive) []int {
	var differences []int
	for _, x := range l {
		if _, predicted, ok := k.serverAt(x.At); ok {
			differences = append(differences, x.Level-predicted)
		}
	}
	return differences
}

// missed is how many measurements are too low at points that are no holes.
func (k checkedPlan) missed(l []api.PlanDrive) int {
	holes := k.holes()
	count := 0
	for _, x := range l {
		if x.Level < k.Least && !slices.Contains(holes, x.At) {
			count++
		}
	}
	return count
}

// meanOf is for at least one number.
func meanOf(l []int) api.Frac {
	sum := 0
	for _, n := range l {
		sum += n
	}
	divisor := commonDivisor(size(sum), len(l))
	return api.Frac{Num: sum / divisor, Den: len(l) / divisor}
}

// commonDivisor is the greatest one of a number from 0 on and one above 0.
func commonDivisor(a, b int) int {
	for b != 0 {
		a, b = b, a%b
	}
	return a
}
