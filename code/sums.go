package code

import (
	"math"
	"slices"
	"sync"

	"downtilt/api"
)

// LeastSums returns the totals behind so many rounds of least sums.
func LeastSums(c api.CodeParity, soft []int, rounds int) ([]int, api.Errno) {
	e := firstError(
		parityError(c),
		softError(soft),
		unless(len(soft) == wordLength(c), api.ErrShape),
		unless(isWithin(rounds, 0, api.MaxCodeRounds), api.ErrRange))
	if e != api.OK {
		return nil, e
	}
	messages := make([][]int, len(c.Rows))
	for i, row := range c.Rows {
		messages[i] = make([]int, len(row))
	}
	for range rounds {
		messages = nextMessages(c, messages, totalsOf(c, soft, messages))
	}
	return totalsOf(c, soft, messages), api.OK
}

// totalsOf is for each position its soft bit and all messages to it.
func totalsOf(c api.CodeParity, soft []int, messages [][]int) []int {
	totals := slices.Clone(soft)
	for i, row := range c.Rows {
		for k, position := range row {
			totals[position] += messages[i][k]
		}
	}
	return totals
}

// nextMessages makes the messages of all rows anew, those of each row by themselves: a row writes its own ones alone, and what all rows read is not written until they are done.
func nextMessages(c api.CodeParity, messages [][]int, totals []int) [][]int {
	next := make([][]int, len(c.Rows))
	var rows sync.WaitGroup
	rows.Add(len(c.Rows))
	for i, row := range c.Rows {
		go func() {
			defer rows.Done()
			next[i] = rowMessages(row, messages[i], totals)
		}()
	}
	rows.Wait()
	return next
}

// rowMessages makes the messages of a row anew from its own ones and the totals.
func rowMessages(row, messages, totals []int) []int {
	told := make([]int, len(row))
	for k, position := range row {
		// the total without what the row itself has said
		told[k] = totals[position] - messages[k]
	}
	next := make([]int, len(row))
	for k := range row {
		next[k] = leastOfOthers(told, k)
	}
	return next
}

// leastOfOthers has the least size of all numbers but that at k, and the sign of their product.
func leastOfOthers(told []int, k int) int {
	least := math.MaxInt
	for i, n := range told {
		if i != k {
			least = lesser(least, n)
		}
	}
	return least
}
