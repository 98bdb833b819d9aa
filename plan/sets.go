package plan

import (
	"iter"
	"slices"
)

// setsOf ranges over all sets of so many of the numbers below count, in ascending order. A set holds until the next one is asked for.
func setsOf(count, size int) iter.Seq[[]int] {
	return func(yield func([]int) bool) {
		yieldSets(nil, count, size, yield)
	}
}

// yieldSets yields all sets that begin with some numbers, until no more are wanted.
func yieldSets(begun []int, count, size int, yield func([]int) bool) bool {
	if len(begun) == size {
		return yield(begun)
	}
	next := 0
	if len(begun) > 0 {
		next = begun[len(begun)-1] + 1
	}
	for n := next; n < count; n++ {
		if !yieldSets(append(begun, n), count, size, yield) {
			return false
		}
	}
	return true
}

// greatestSet returns the first of the greatest sets of numbers below count that are right. The empty one is right.
func greatestSet(count int, isRight func([]int) bool) []int {
	var greatest []int
search:
	for size := count; size > 0; size-- {
		for set := range setsOf(count, size) {
			if isRight(set) {
				greatest = slices.Clone(set)
				break search
			}
		}
	}
	return greatest
}
