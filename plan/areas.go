package plan

import (
	"slices"

	"downtilt/api"
)

// area is some of the points of a raster.
type area [api.MaxPlanSide][api.MaxPlanSide]bool

// BestTilts returns a tilt for each cell such that most points are covered, and how many are.
func BestTilts(p api.PlanPlan, tilts []int) ([]int, int, api.Errno) {
	k, e := checkPlan(p)
	e = firstError(
		e,
		tiltsError(tilts))
	if e != api.OK {
		return nil, 0, e
	}
	var areas [][]area
	for _, c := range k.Cells {
		areas = append(areas, k.tiltedAreas(c, tilts))
	}
	best, count := mostCovered(areas, area{})
	for cell, choice := range best {
		best[cell] = tilts[choice]
	}
	return best, count, api.OK
}

// MayRest returns whether cells may rest.
func MayRest(p api.PlanPlan, cells []int) (bool, api.Errno) {
	k, e := checkPlan(p)
	e = firstError(
		e,
		setError(cells, len(p.Cells)))
	if e != api.OK {
		return false, e
	}
	return mayRest(k.areas(), cells), api.OK
}

// MostResting returns the greatest set of cells that may rest.
func MostResting(p api.PlanPlan) ([]int, api.Errno) {
	k, e := checkPlan(p)
	if e != api.OK {
		return nil, e
	}
	areas := k.areas()
	return greatestSet(len(areas), func(cells []int) bool { return mayRest(areas, cells) }), api.OK
}

func tiltsError(tilts []int) api.Errno {
	e := countError(len(tilts), api.MaxPlanTilts)
	if e != api.OK {
		return e
	}
	before := none
	for _, tilt := range tilts {
		e = firstError(
			e,
			rangeError(tilt, 0, api.MaxPlanTilt),
			unless(tilt > before, api.ErrOrder))
		before = tilt
	}
	return e
}

// areaOf is the points at which the level of a cell is high enough.
func (k checkedPlan) areaOf(c api.PlanCell) area {
	var a area
	for at := range pointsOf(k.Raster) {
		level, ok := k.levelAt(c, at)
		a[at[0]][at[1]] = ok && level >= k.Least
	}
	return a
}

// areas is those of all cells.
func (k checkedPlan) areas() []area {
	var areas []area
	for _, c := range k.Cells {
		areas = append(areas, k.areaOf(c))
	}
	return areas
}

// tiltedAreas is those of a cell with several tilts.
func (k checkedPlan) tiltedAreas(c api.PlanCell, tilts []int) []area {
	var areas []area
	for _, tilt := range tilts {
		c.Tilt = tilt
		areas = append(areas, k.areaOf(c))
	}
	return areas
}

// mostCovered returns which one of the areas of each cell to take such that these have most points together with those that are covered already, and how many.
func mostCovered(areas [][]area, covered area) ([]int, int) {
	if len(areas) == 0 {
		return nil, covered.count()
	}
	var best []int
	most := none
	for choice, a := range areas[0] {
		others, count := mostCovered(areas[1:], covered.with(a))
		if count > most {
			best, most = append([]int{choice}, others...), count
		}
	}
	return best, most
}

// mayRest tells whether all that all cells cover is covered without some of them, too.
func mayRest(areas []area, cells []int) bool {
	var all, left area
	for cell, a := range areas {
		all = all.with(a)
		if !slices.Contains(cells, cell) {
			left = left.with(a)
		}
	}
	return left == all
}

// with is the points of both areas.
func (a area) with(b area) area {
	for row := range a {
		for column := range a[row] {
			a[row][column] = a[row][column] || b[row][column]
		}
	}
	return a
}

func (a area) count() int {
	count := 0
	for _, row := range a {
		for _, has := range row {
			if has {
				count++
			}
		}
	}
	return count
}
