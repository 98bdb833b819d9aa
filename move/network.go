package move

import (
	"slices"

	"downtilt/api"
)

// CheckNetwork finds what is wrong with a network, and the number of the cell or the pair.
func CheckNetwork(n api.MoveNetwork) (int, api.Errno) {
	e := firstError(
		unless(len(n.Cells) > 0, api.ErrShape),
		unless(len(n.Cells) <= api.MaxMoveCells, api.ErrLarge))
	if e != api.OK {
		return 0, e
	}
	for i, name := range n.Cells {
		e := firstError(
			unless(isName(name), api.ErrName),
			unless(!slices.Contains(n.Cells[:i], name), api.ErrExists))
		if e != api.OK {
			return i, e
		}
	}
	for i, pair := range n.Neighbours {
		e := firstError(
			missingError(pair[0], len(n.Cells)),
			missingError(pair[1], len(n.Cells)),
			unless(pair[0] < pair[1], api.ErrOrder),
			unless(!slices.Contains(n.Neighbours[:i], pair), api.ErrDouble))
		if e != api.OK {
			return i, e
		}
	}
	return 0, rangeError(n.Limit, 1, api.MaxMoveLimit)
}

// networkError is that of a network without its number.
func networkError(n api.MoveNetwork) api.Errno {
	_, e := CheckNetwork(n)
	return e
}

func cellError(n api.MoveNetwork, cell int) api.Errno {
	return missingError(cell, len(n.Cells))
}

func areNeighbours(n api.MoveNetwork, a, b int) bool {
	return slices.Contains(n.Neighbours, [2]int{min(a, b), max(a, b)})
}

func isName(s string) bool {
	if len(s) < 1 || len(s) > api.MaxName || !isLetter(s[0]) {
		return false
	}
	for i := range len(s) {
		if !isLetter(s[i]) && !isDigit(s[i]) && s[i] != '-' {
			return false
		}
	}
	return true
}

func isLetter(c byte) bool {
	return 'a' <= c && c <= 'z' || 'A' <= c && c <= 'Z'
}

func isDigit(c byte) bool {
	return '0' <= c && c <= '9'
}
