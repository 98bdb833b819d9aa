package plan

import (
	"iter"

	"downtilt/api"
)

// CheckRaster finds what is wrong with a raster, and the row and the column of it.
func CheckRaster(r api.PlanRaster) ([2]int, api.Errno) {
	if e := countError(len(r.Rows), api.MaxPlanSide); e != api.OK {
		return [2]int{}, e
	}
	for row, heights := range r.Rows {
		e := firstError(
			unless(len(heights) == len(r.Rows[0]), api.ErrShape),
			countError(len(heights), api.MaxPlanSide))
		if e != api.OK {
			return [2]int{row, 0}, e
		}
		for column, height := range heights {
			if e := rangeError(height, 0, api.MaxPlanHeight); e != api.OK {
				return [2]int{row, column}, e
			}
		}
	}
	return [2]int{}, api.OK
}

// Sees returns whether a cell sees a point.
func Sees(r api.PlanRaster, c api.PlanCell, at [2]int) (bool, api.Errno) {
	e := firstError(
		CheckCell(r, c),
		pointError(r, at))
	if e != api.OK {
		return false, e
	}
	return sees(r, c, at), api.OK
}

// rasterError is that of a raster without its mark.
func rasterError(r api.PlanRaster) api.Errno {
	_, e := CheckRaster(r)
	return e
}

func pointError(r api.PlanRaster, at [2]int) api.Errno {
	e := missingError(at[0], len(r.Rows))
	if e != api.OK {
		return e
	}
	return missingError(at[1], len(r.Rows[at[0]]))
}

// pointsOf ranges over all points of a raster, row by row.
func pointsOf(r api.PlanRaster) iter.Seq[[2]int] {
	return func(yield func([2]int) bool) {
		for row, heights := range r.Rows {
			for column := range heights {
				if !yield([2]int{row, column}) {
					return
				}
			}
		}
	}
}

func heightAt(r api.PlanRaster, at [2]int) int {
	return r.Rows[at[0]][at[1]]
}

// sees is for a cell and a point that are right.
func sees(r api.PlanRaster, c api.PlanCell, to [2]int) bool {
	antenna := heightAt(r, c.At) + c.Mast
	phone := heightAt(r, to) + api.PlanHand
	n := stepsOf(c.At, to)
	for k := 1; k < n; k++ {
		line := (n-k)*antenna + k*phone
		if n*heightAt(r, pointBetween(c.At, to, k, n)) > line {
			return false
		}
	}
	return true
}

// stepsOf is the steps between two points.
func stepsOf(a, b [2]int) int {
	return max(size(a[0]-b[0]), size(a[1]-b[1]))
}

// squareOf is the square of the distance of two points.
func squareOf(a, b [2]int) int {
	rows, columns := a[0]-b[0], a[1]-b[1]
	return rows*rows + columns*columns
}

// pointBetween is the point k nths of the way from one point to another.
func pointBetween(from, to [2]int, k, n int) [2]int {
	var at [2]int
	for i := range at {
		at[i] = roundedHalfUp((n-k)*from[i]+k*to[i], n)
	}
	return at
}

// roundedHalfUp is a / b, a from 0 on and b above 0.
func roundedHalfUp(a, b int) int {
	return (2*a + b) / (2 * b)
}
