package plan

import "downtilt/api"

// RootsFor returns the first root of each cell.
func RootsFor(n api.PlanNet, needs []int, all int) ([]int, api.Errno) {
	k, e := checkNet(n)
	e = firstError(
		e,
		needsError(n, needs),
		rangeError(all, 1, api.MaxPlanRoots))
	if e != api.OK {
		return nil, e
	}
	first := make([]int, k.Cells)
	for cell := range first {
		for k.clashes(needs, first, cell) {
			first[cell]++
		}
		if first[cell]+needs[cell] > all {
			return nil, api.ErrFull
		}
	}
	return first, api.OK
}

// FirstRootClash returns the first two cells near each other that have a root in common.
func FirstRootClash(n api.PlanNet, needs []int, first []int) ([2]int, api.Errno) {
	k, e := checkNet(n)
	e = firstError(
		e,
		needsError(n, needs),
		listError(first, n.Cells, 0, api.MaxPlanRoots-1))
	if e != api.OK {
		return [2]int{}, e
	}
	return k.firstPair(func(a, b int) bool { return shareRoot(needs, first, a, b) })
}

func needsError(n api.PlanNet, needs []int) api.Errno {
	return listError(needs, n.Cells, 1, api.MaxPlanNeed)
}

// clashes tells whether a cell has a root of an earlier one near it.
func (k checkedNet) clashes(needs, first []int, cell int) bool {
	for earlier := range cell {
		if k.near[cell][earlier] && shareRoot(needs, first, cell, earlier) {
			return true
		}
	}
	return false
}

// shareRoot tells whether two cells have a root in common.
func shareRoot(needs, first []int, a, b int) bool {
	return first[a] < first[b]+needs[b] && first[b] < first[a]+needs[a]
}
