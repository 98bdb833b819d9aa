package beam

import (
	"iter"

	"downtilt/api"
)

// pairsOf ranges over all pairs of numbers below count, the lesser number first, in ascending order.
func pairsOf(count int) iter.Seq[[2]int] {
	return func(yield func([2]int) bool) {
		for a := range count {
			for b := a + 1; b < count; b++ {
				if !yield([2]int{a, b}) {
					return
				}
			}
		}
	}
}

// MostPairs returns as many pairs of users as possible.
func MostPairs(l [][]api.Gauss, most api.Frac) ([][2]int, api.Errno) {
	if e := firstError(usersError(l), mostError(most)); e != api.OK {
		return nil, e
	}
	var sharing [][2]int
	for pair := range pairsOf(len(l)) {
		if mayShare(l[pair[0]], l[pair[1]], most) {
			sharing = append(sharing, pair)
		}
	}
	return mostApart(sharing), api.OK
}

// CheckPairs returns how many pairs there are.
func CheckPairs(l [][]api.Gauss, most api.Frac, pairs [][2]int) (int, api.Errno) {
	if e := firstError(usersError(l), mostError(most)); e != api.OK {
		return 0, e
	}
	isPaired := make([]bool, len(l))
	for _, pair := range pairs {
		if e := pairError(l, most, isPaired, pair); e != api.OK {
			return 0, e
		}
		isPaired[pair[0]], isPaired[pair[1]] = true, true
	}
	return len(pairs), api.OK
}

// usersError is the first error of users.
func usersError(l [][]api.Gauss) api.Errno {
	if len(l) > api.MaxBeamUsers {
		return api.ErrLarge
	}
	return itemsError(l, func(h []api.Gauss) api.Errno {
		return firstError(
			channelError(h),
			unless(len(h) == len(l[0]), api.ErrClash),
			unless(isHeard(h), api.ErrZero))
	})
}

// pairError is the first error of a pair behind others.
func pairError(l [][]api.Gauss, most api.Frac, isPaired []bool, pair [2]int) api.Errno {
	a, b := pair[0], pair[1]
	switch last := len(l) - 1; {
	case !isWithin(a, 0, last) || !isWithin(b, 0, last):
		return api.ErrMissing
	case a >= b:
		return api.ErrOrder
	case isPaired[a] || isPaired[b]:
		return api.ErrDouble
	case !mayShare(l[a], l[b], most):
		return api.ErrClash
	}
	return api.OK
}

// mostApart is as many of the pairs as possible that have no user in common. Since they ascend, the first such list that is found is the lexicographically first one.
func mostApart(pairs [][2]int) [][2]int {
	var best [][2]int
	for i, first := range pairs {
		others := mostApart(apartFrom(first, pairs[i+1:]))
		if len(others) >= len(best) {
			best = append([][2]int{first}, others...)
		}
	}
	return best
}

// apartFrom is the pairs that have no user in common with one.
func apartFrom(one [2]int, pairs [][2]int) [][2]int {
	var l [][2]int
	for _, p := range pairs {
		if p[0] != one[0] && p[0] != one[1] && p[1] != one[0] && p[1] != one[1] {
			l = append(l, p)
		}
	}
	return l
}
