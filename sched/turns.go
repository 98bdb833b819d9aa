package sched

import (
	"iter"
	"slices"

	"downtilt/api"
)

// TurnsOf returns the least total of a choice.
func TurnsOf(r [][]int, turns []int) (int, api.Errno) {
	e := firstError(
		caseError(r),
		unless(len(turns) == len(r), api.ErrShape))
	if e == api.OK {
		e = itemsError(turns, func(user int) api.Errno {
			return unless(isWithin(user, 0, len(r[0])-1), api.ErrMissing)
		})
	}
	if e != api.OK {
		return 0, e
	}
	return leastTotal(r, turns), api.OK
}

// BestTurns returns the first choice with the greatest least total, and this.
func BestTurns(r [][]int) ([]int, int, api.Errno) {
	if e := caseError(r); e != api.OK {
		return nil, 0, e
	}
	var best []int
	greatest := none
	for choice := range choicesOf(len(r), len(r[0])) {
		if total := leastTotal(r, choice); total > greatest {
			best, greatest = slices.Clone(choice), total
		}
	}
	return best, greatest, api.OK
}

// CheckBound returns the bound of weights.
func CheckBound(r [][]int, weights []int) ([2]int, api.Errno) {
	e := caseError(r)
	if e == api.OK {
		e = weightsError(len(r[0]), weights)
	}
	if e != api.OK {
		return [2]int{}, e
	}
	sum, weight := 0, sumOf(weights)
	for _, rates := range r {
		greatest := 0
		for user, rate := range rates {
			greatest = max(greatest, weights[user]*rate)
		}
		sum += greatest
	}
	divisor := commonDivisor(sum, weight)
	return [2]int{sum / divisor, weight / divisor}, api.OK
}

// caseError is the first error of a small case.
func caseError(r [][]int) api.Errno {
	if len(r) == 0 || len(r[0]) == 0 {
		return api.ErrShape
	}
	if len(r) > api.MaxSchedTurns || len(r[0]) > api.MaxSchedTurners {
		return api.ErrLarge
	}
	return itemsError(r, func(rates []int) api.Errno {
		if len(rates) != len(r[0]) {
			return api.ErrShape
		}
		return itemsError(rates, within(0, api.MaxSchedRate))
	})
}

func weightsError(users int, weights []int) api.Errno {
	if len(weights) != users {
		return api.ErrShape
	}
	return firstError(
		itemsError(weights, within(0, api.MaxSchedWeight)),
		unless(slices.Max(weights) > 0, api.ErrZero))
}

// choicesOf ranges over all choices, in ascending order. A choice holds until the next one is asked for.
func choicesOf(turns, users int) iter.Seq[[]int] {
	return func(yield func([]int) bool) {
		choice := make([]int, turns)
		for yield(choice) {
			turn := turns - 1
			for turn >= 0 && choice[turn] == users-1 {
				choice[turn] = 0
				turn--
			}
			if turn < 0 {
				return
			}
			choice[turn]++
		}
	}
}

// leastTotal is for choices that are right.
func leastTotal(r [][]int, choice []int) int {
	totals := make([]int, len(r[0]))
	for turn, user := range choice {
		totals[user] += r[turn][user]
	}
	return slices.Min(totals)
}
