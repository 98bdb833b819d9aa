package plan

import (
	"slices"

	"downtilt/api"
)

// checkedPlan is a plan that was checked.
type checkedPlan struct{ api.PlanPlan }

// LevelAt returns the level of a cell at a point.
func LevelAt(p api.PlanPlan, cell int, at [2]int) (int, api.Errno) {
	k, e := checkPlan(p)
	e = firstError(
		e,
		missingError(cell, len(p.Cells)),
		pointError(p.Raster, at))
	if e != api.OK {
		return 0, e
	}
	level, ok := k.levelAt(k.Cells[cell], at)
	if !ok {
		return 0, api.ErrNone
	}
	return level, api.OK
}

// ServerAt returns the server of a point, and its level there.
func ServerAt(p api.PlanPlan, at [2]int) (int, int, api.Errno) {
	k, e := checkPlan(p)
	e = firstError(
		e,
		pointError(p.Raster, at))
	if e != api.OK {
		return 0, 0, e
	}
	server, level, ok := k.serverAt(at)
	if !ok {
		return 0, 0, api.ErrNone
	}
	return server, level, api.OK
}

// Holes returns all points that are not covered.
func Holes(p api.PlanPlan) ([][2]int, api.Errno) {
	k, e := checkPlan(p)
	if e != api.OK {
		return nil, e
	}
	return k.holes(), api.OK
}

// CoveredBy returns how many covered points each cell serves.
func CoveredBy(p api.PlanPlan) ([]int, api.Errno) {
	k, e := checkPlan(p)
	if e != api.OK {
		return nil, e
	}
	counts := make([]int, len(k.Cells))
	for at := range pointsOf(k.Raster) {
		server, level, ok := k.serverAt(at)
		if ok && level >= k.Least {
			counts[server]++
		}
	}
	return counts, api.OK
}

// NeighboursOf returns all pairs of cells whose levels are about the same somewhere.
func NeighboursOf(p api.PlanPlan, margin int) ([][2]int, api.Errno) {
	k, e := checkPlan(p)
	e = firstError(
		e,
		rangeError(margin, 0, api.MaxPlanMargin))
	if e != api.OK {
		return nil, e
	}
	var pairs [][2]int
	for pair := range setsOf(len(k.Cells), 2) {
		if k.meet(k.Cells[pair[0]], k.Cells[pair[1]], margin) {
			pairs = append(pairs, [2]int(pair))
		}
	}
	return pairs, api.OK
}

func checkPlan(p api.PlanPlan) (checkedPlan, api.Errno) {
	e := firstError(
		rasterError(p.Raster),
		cellsError(p.Raster, p.Cells),
		lossesError(p.Losses),
		rangeError(p.Hidden, 0, api.MaxPlanLoss),
		rangeError(p.Step, 0, api.MaxPlanStep),
		rangeError(p.Least, api.MinLevel, api.MaxLevel))
	return checkedPlan{p}, e
}

func cellsError(r api.PlanRaster, l []api.PlanCell) api.Errno {
	e := countError(len(l), api.MaxPlanCells)
	if e != api.OK {
		return e
	}
	for i, c := range l {
		e = firstError(
			e,
			cellError(r, c),
			unless(!isNamed(l[:i], c.Name), api.ErrExists))
	}
	return e
}

func lossesError(table []api.PlanLoss) api.Errno {
	e := countError(len(table), api.MaxPlanRows)
	if e != api.OK {
		return e
	}
	before := none
	for _, row := range table {
		e = firstError(
			e,
			rangeError(row.Square, 0, api.MaxPlanSquare),
			rangeError(row.Loss, 0, api.MaxPlanLoss),
			unless(row.Square > before, api.ErrOrder))
		before = row.Square
	}
	return e
}

// levelAt returns the level of a cell at a point, if it has one there.
func (k checkedPlan) levelAt(c api.PlanCell, at [2]int) (int, bool) {
	square := squareOf(c.At, at)
	row := slices.IndexFunc(k.Losses, func(l api.PlanLoss) bool { return l.Square >= square })
	if row == none {
		return 0, false
	}
	beside := size(api.PlanLooks - c.Tilt - stepsOf(c.At, at)) // the place that it looks at
	level := c.Power - k.Losses[row].Loss - k.Step*beside
	if !sees(k.Raster, c, at) {
		level -= k.Hidden
	}
	return level, true
}

// serverAt returns the server of a point and its level there, if there is one.
func (k checkedPlan) serverAt(at [2]int) (int, int, bool) {
	server, greatest := none, 0
	for cell, c := range k.Cells {
		level, ok := k.levelAt(c, at)
		if ok && (server == none || level > greatest) {
			server, greatest = cell, level
		}
	}
	return server, greatest, server != none
}

func (k checkedPlan) holes() [][2]int {
	var holes [][2]int
	for at := range pointsOf(k.Raster) {
		_, level, ok := k.serverAt(at)
		if !ok || level < k.Least {
			holes = append(holes, at)
		}
	}
	return holes
}

// meet tells whether two cells both cover a point with levels that differ by no more than a margin.
func (k checkedPlan) meet(a, b api.PlanCell, margin int) bool {
	for at := range pointsOf(k.Raster) {
		one, hasOne := k.levelAt(a, at)
		other, hasOther := k.levelAt(b, at)
		if hasOne && hasOther && min(one, other) >= k.Least && size(one-other) <= margin {
			return true
		}
	}
	return false
}
