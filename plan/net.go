package plan

import (
	"slices"

	"downtilt/api"
)

// checkedNet is a net that was checked, and which cells are near which.
type checkedNet struct {
	api.PlanNet
	near [api.MaxPlanNet][api.MaxPlanNet]bool
}

// CheckNet finds what is wrong with a net, and the number of the pair.
func CheckNet(n api.PlanNet) (int, api.Errno) {
	e := firstError(
		rangeError(n.Cells, 1, api.MaxPlanNet),
		unless(len(n.Pairs) <= api.MaxPlanNet*api.MaxPlanNet, api.ErrLarge))
	if e != api.OK {
		return 0, e
	}
	for i, pair := range n.Pairs {
		isBehind := i == 0 || slices.Compare(pair[:], n.Pairs[i-1][:]) > 0
		e := firstError(
			missingError(pair[0], n.Cells),
			missingError(pair[1], n.Cells),
			unless(pair[0] < pair[1] && isBehind, api.ErrOrder))
		if e != api.OK {
			return i, e
		}
	}
	return 0, api.OK
}

// Near returns all cells near a cell.
func Near(n api.PlanNet, cell int) ([]int, api.Errno) {
	k, e := checkNet(n)
	e = firstError(
		e,
		missingError(cell, n.Cells))
	if e != api.OK {
		return nil, e
	}
	var cells []int
	for other := range k.Cells {
		if k.near[cell][other] {
			cells = append(cells, other)
		}
	}
	return cells, api.OK
}

// FirstConfusion returns the first two cells near each other with the same identity.
func FirstConfusion(n api.PlanNet, identities []int) ([2]int, api.Errno) {
	k, e := checkNet(n)
	e = firstError(
		e,
		listError(identities, n.Cells, 0, api.MaxCell-1))
	if e != api.OK {
		return [2]int{}, e
	}
	return k.firstPair(func(a, b int) bool { return identities[a] == identities[b] })
}

// FewestKinds returns a kind for each cell such that cells near each other have different ones, and how many kinds there are.
func FewestKinds(n api.PlanNet) ([]int, int, api.Errno) {
	k, e := checkNet(n)
	if e != api.OK {
		return nil, 0, e
	}
	for count := 1; ; count++ { // as many kinds as cells do in any case
		if kinds, ok := k.withKinds(nil, count); ok {
			return kinds, count, api.OK
		}
	}
}

// CheckClique returns how many cells a clique has.
func CheckClique(n api.PlanNet, cells []int) (int, api.Errno) {
	k, e := checkNet(n)
	e = firstError(
		e,
		unless(len(cells) > 0, api.ErrShape),
		setError(cells, n.Cells))
	if e != api.OK {
		return 0, e
	}
	if !k.isClique(cells) {
		return 0, api.ErrClash
	}
	return len(cells), api.OK
}

// Clique returns the greatest clique.
func Clique(n api.PlanNet) ([]int, api.Errno) {
	k, e := checkNet(n)
	if e != api.OK {
		return nil, e
	}
	return greatestSet(k.Cells, k.isClique), api.OK
}

func checkNet(n api.PlanNet) (checkedNet, api.Errno) {
	k := checkedNet{PlanNet: n}
	if _, e := CheckNet(n); e != api.OK {
		return k, e
	}
	for a := range k.Cells {
		for b := range k.Cells {
			k.near[a][b] = a != b && (k.areNeighbours(a, b) || k.haveCommonNeighbour(a, b))
		}
	}
	return k, api.OK
}

func (k checkedNet) areNeighbours(a, b int) bool {
	return slices.Contains(k.Pairs, [2]int{min(a, b), max(a, b)})
}

func (k checkedNet) haveCommonNeighbour(a, b int) bool {
	for other := range k.Cells {
		if k.areNeighbours(a, other) && k.areNeighbours(other, b) {
			return true
		}
	}
	return false
}

// firstPair returns the first two cells near each other that something is true of.
func (k checkedNet) firstPair(isTrue func(a, b int) bool) ([2]int, api.Errno) {
	for pair := range setsOf(k.Cells, 2) {
		if k.near[pair[0]][pair[1]] && isTrue(pair[0], pair[1]) {
			return [2]int(pair), api.OK
		}
	}
	return [2]int{}, api.ErrNone
}

// withKinds returns the first list of so many kinds that begins with the kinds of the first cells, if there is one.
func (k checkedNet) withKinds(begun []int, count int) ([]int, bool) {
	cell := len(begun)
	if cell == k.Cells {
		return begun, true
	}
	for kind := range count {
		if k.isNearKind(begun, cell, kind) {
			continue
		}
		if kinds, ok := k.withKinds(append(begun, kind), count); ok {
			return kinds, true
		}
	}
	return nil, false
}

// isNearKind tells whether a cell near another one has a kind.
func (k checkedNet) isNearKind(kinds []int, cell, kind int) bool {
	for other, its := range kinds {
		if k.near[cell][other] && its == kind {
			return true
		}
	}
	return false
}

func (k checkedNet) isClique(cells []int) bool {
	for i, a := range cells {
		for _, b := range cells[:i] {
			if !k.near[a][b] {
				return false
			}
		}
	}
	return true
}
