package plan_test

import (
	"slices"

	"downtilt/api"
)

// The slow versions of this file follow the definitions of the chapter, for arguments that are right.

// slowSteps is the least number of steps, each to one of the eight points around.
func slowSteps(a, b [2]int) int {
	steps := 0
	for a != b {
		for i := range a {
			if a[i] < b[i] {
				a[i]++
			} else if a[i] > b[i] {
				a[i]--
			}
		}
		steps++
	}
	return steps
}

// fine is what numbers are counted in that lie k nths of the way from one to another: each n up to 12 divides it.
const fine = 27720

// along is what lies k nths of the way from a to b, counted finely.
func along(a, b, k, n int) int {
	return a*fine + (b-a)*(fine/n)*k
}

// nearest is the whole number that is nearest to one that is counted finely, of two the greater one.
func nearest(x int) int {
	best := 0
	distance := func(n int) int { return max(x-n*fine, n*fine-x) }
	for n := range 12 {
		if distance(n) <= distance(best) {
			best = n
		}
	}
	return best
}

func slowSees(r api.PlanRaster, c api.PlanCell, to [2]int) bool {
	antenna, phone := r.Rows[c.At[0]][c.At[1]]+c.Mast, r.Rows[to[0]][to[1]]+2
	n := slowSteps(c.At, to)
	for k := 1; k <= n-1; k++ {
		row, column := nearest(along(c.At[0], to[0], k, n)), nearest(along(c.At[1], to[1], k, n))
		if r.Rows[row][column]*fine > along(antenna, phone, k, n) {
			return false
		}
	}
	return true
}

// slowLevel returns the level of a cell at a point, or nil.
func slowLevel(p api.PlanPlan, cell int, at [2]int) *int {
	c := p.Cells[cell]
	rows, columns := at[0]-c.At[0], at[1]-c.At[1]
	for _, row := range p.Losses {
		if row.Square < rows*rows+columns*columns {
			continue
		}
		level := c.Power - row.Loss
		if !slowSees(p.Raster, c, at) {
			level -= p.Hidden
		}
		beside := 12 - c.Tilt - slowSteps(c.At, at)
		if beside < 0 {
			beside = -beside
		}
		level -= p.Step * beside
		return &level
	}
	return nil
}

// slowServer returns the server of a point and its level, or nil.
func slowServer(p api.PlanPlan, at [2]int) (int, *int) {
	var levels []*int
	for cell := range p.Cells {
		levels = append(levels, slowLevel(p, cell, at))
	}
	for cell, level := range levels {
		isLess := func(its *int) bool { return its != nil && level != nil && *level < *its }
		if level != nil && !slices.ContainsFunc(levels, isLess) {
			return cell, level
		}
	}
	return 0, nil
}

// allPoints is all points of a raster, row by row.
func allPoints(r api.PlanRaster) [][2]int {
	var l [][2]int
	for row := range r.Rows {
		for column := range r.Rows[0] {
			l = append(l, [2]int{row, column})
		}
	}
	return l
}

// slowCovered tells of each point whether it is covered.
func slowCovered(p api.PlanPlan) map[[2]int]bool {
	covered := map[[2]int]bool{}
	for _, at := range allPoints(p.Raster) {
		_, level := slowServer(p, at)
		covered[at] = level != nil && *level >= p.Least
	}
	return covered
}

// without is a plan without some cells.
func without(p api.PlanPlan, cells []int) api.PlanPlan {
	var left []api.PlanCell
	for cell, c := range p.Cells {
		if !slices.Contains(cells, cell) {
			left = append(left, c)
		}
	}
	p.Cells = left
	return p
}

// slowMayRest looks at each point.
func slowMayRest(p api.PlanPlan, cells []int) bool {
	all, left := slowCovered(p), slowCovered(without(p, cells))
	for _, at := range allPoints(p.Raster) {
		if all[at] && !left[at] {
			return false
		}
	}
	return true
}

// allSets is all sets of numbers below count.
func allSets(count int) [][]int {
	sets := [][]int{nil}
	for n := range count {
		for _, set := range slices.Clone(sets) {
			sets = append(sets, append(slices.Clone(set), n))
		}
	}
	return sets
}

// slowGreatest is the greatest set that is right, of several the lexicographically first one.
func slowGreatest(count int, isRight func([]int) bool) []int {
	var best []int
	for _, set := range allSets(count) {
		isBetter := len(set) > len(best) || len(set) == len(best) && slices.Compare(set, best) < 0
		if isBetter && isRight(set) {
			best = set
		}
	}
	return best
}

// slowDistances is how many pairs at least lead from a cell to each other one (99 if none do).
func slowDistances(n api.PlanNet, from int) []int {
	distances := slices.Repeat([]int{99}, n.Cells)
	distances[from] = 0
	for range n.Cells {
		for _, pair := range n.Pairs {
			a, b := pair[0], pair[1]
			distances[a] = min(distances[a], distances[b]+1)
			distances[b] = min(distances[b], distances[a]+1)
		}
	}
	return distances
}

// areNear tells whether two cells are near each other.
func areNear(n api.PlanNet, a, b int) bool {
	distance := slowDistances(n, a)[b]
	return distance == 1 || distance == 2
}

// slowPair is the first pair of cells near each other that something is true of, or nil.
func slowPair(n api.PlanNet, isTrue func(a, b int) bool) *[2]int {
	for a := range n.Cells {
		for b := range n.Cells {
			if a < b && areNear(n, a, b) && isTrue(a, b) {
				return &[2]int{a, b}
			}
		}
	}
	return nil
}

// rootSet is the roots of a cell.
func rootSet(first, need int) map[int]bool {
	roots := map[int]bool{}
	for i := range need {
		roots[first+i] = true
	}
	return roots
}

func haveCommon(a, b map[int]bool) bool {
	for root := range a {
		if b[root] {
			return true
		}
	}
	return false
}

// slowRoots tries all first roots from 0 on, and returns nil if there is none for a cell.
func slowRoots(n api.PlanNet, needs []int, all int) []int {
	var first []int
	for cell, need := range needs {
		found := -1
		for root := range all {
			isFree := root+need-1 <= all-1
			for earlier := range cell {
				if areNear(n, earlier, cell) && haveCommon(rootSet(root, need), rootSet(first[earlier], needs[earlier])) {
					isFree = false
				}
			}
			if isFree {
				found = root
				break
			}
		}
		if found < 0 {
			return nil
		}
		first = append(first, found)
	}
	return first
}
