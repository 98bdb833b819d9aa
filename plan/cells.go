package plan

import (
	"slices"

	"downtilt/api"
)

// CheckCell finds what is wrong with a cell.
func CheckCell(r api.PlanRaster, c api.PlanCell) api.Errno {
	return firstError(
		rasterError(r),
		cellError(r, c))
}

// cellError is for rasters that are right.
func cellError(r api.PlanRaster, c api.PlanCell) api.Errno {
	return firstError(
		itselfError(c),
		pointError(r, c.At),
		numbersError(c))
}

// itselfError is that of a cell by itself.
func itselfError(c api.PlanCell) api.Errno {
	return firstError(
		unless(isName(c.Name), api.ErrName),
		rangeError(c.Identity, 0, api.MaxCell-1))
}

// numbersError is that of a cell's numbers.
func numbersError(c api.PlanCell) api.Errno {
	return firstError(
		rangeError(c.Mast, 1, api.MaxPlanMast),
		rangeError(c.Power, api.MinLevel, api.MaxLevel),
		rangeError(c.Tilt, 0, api.MaxPlanTilt))
}

func isNamed(l []api.PlanCell, name string) bool {
	return slices.ContainsFunc(l, func(c api.PlanCell) bool { return c.Name == name })
}

func isName(s string) bool {
	if len(s) < 1 || len(s) > api.MaxName || !isLetter(s[0]) {
		return false
	}
	for i := range len(s) {
		if !isLetter(s[i]) && !isDigit(s[i]) && s[i] != '-' {
			return false
		}
	}
	return true
}

func isLetter(c byte) bool {
	return 'a' <= c && c <= 'z' || 'A' <= c && c <= 'Z'
}

func isDigit(c byte) bool {
	return '0' <= c && c <= '9'
}
