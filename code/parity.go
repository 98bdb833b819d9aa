package code

import (
	"slices"

	"downtilt/api"
)

// CheckParity returns the first error of a parity-check code, and the row that has it.
func CheckParity(c api.CodeParity) (int, api.Errno) {
	switch {
	case !isWithin(c.Info, 1, api.MaxCodeInfo):
		return 0, api.ErrRange
	case len(c.Rows) == 0:
		return 0, api.ErrShape
	case len(c.Rows) > api.MaxCodeRows:
		return 0, api.ErrLarge
	}
	for i, row := range c.Rows {
		if e := rowError(row, c.Info+i); e != api.OK {
			return i, e
		}
	}
	return 0, api.OK
}

// rowError is the first error of a row with this check bit.
func rowError(row []int, check int) api.Errno {
	if len(row) < 2 {
		return api.ErrShape
	}
	if len(row) > api.MaxCodeRow {
		return api.ErrLarge
	}
	before := -1
	for _, position := range row {
		if !isWithin(position, 0, check) {
			return api.ErrRange
		}
		if position <= before {
			return api.ErrOrder
		}
		before = position
	}
	return unless(before == check, api.ErrOpen)
}

// parityError is the error of a parity-check code without its row.
func parityError(c api.CodeParity) api.Errno {
	_, e := CheckParity(c)
	return e
}

// wordLength is how many bits a word has.
func wordLength(c api.CodeParity) int {
	return c.Info + len(c.Rows)
}

// wordError is the first error of a code and of bits that are to be as many as a word has.
func wordError(c api.CodeParity, word []int) api.Errno {
	return firstError(
		parityError(c),
		bitsError(word),
		unless(len(word) == wordLength(c), api.ErrShape))
}

// EncodeParity returns the word of bits.
func EncodeParity(c api.CodeParity, bits []int) ([]int, api.Errno) {
	e := firstError(
		parityError(c),
		bitsError(bits),
		unless(len(bits) == c.Info, api.ErrShape))
	if e != api.OK {
		return nil, e
	}
	word := slices.Clone(bits)
	for _, row := range c.Rows {
		// a check bit may be looked at by the rows behind
		word = append(word, oddness(word, row[:len(row)-1]))
	}
	return word, api.OK
}

// Failed returns the rows that fail.
func Failed(c api.CodeParity, word []int) ([]int, api.Errno) {
	if e := wordError(c, word); e != api.OK {
		return nil, e
	}
	return failed(c, word), api.OK
}

// Flip returns the word behind flipping, and how often a bit was changed.
func Flip(c api.CodeParity, word []int) ([]int, int, api.Errno) {
	if e := wordError(c, word); e != api.OK {
		return nil, 0, e
	}
	changed := slices.Clone(word)
	changes := flip(c, changed)
	return changed, changes, api.OK
}

// oddness is 1 if the sum of the bits at the positions is odd.
func oddness(word, positions []int) int {
	sum := 0
	for _, position := range positions {
		sum ^= word[position]
	}
	return sum
}

func failed(c api.CodeParity, word []int) []int {
	var rows []int
	for i, row := range c.Rows {
		if oddness(word, row) == 1 {
			rows = append(rows, i)
		}
	}
	return rows
}

// flip changes bits of the word as long as fewer rows fail then, and returns how often.
func flip(c api.CodeParity, word []int) int {
	now, changes := len(failed(c, word)), 0
anew:
	for {
		behind := failedBehind(c, word)
		least := slices.Min(behind)
		for position, rows := range behind {
			if rows == least && rows < now {
				word[position] ^= 1
				now = rows
				changes++
				continue anew
			}
		}
		return changes
	}
}

// failedBehind is how many rows fail with each bit changed by itself.
func failedBehind(c api.CodeParity, word []int) []int {
	tried := slices.Clone(word)
	behind := make([]int, len(word))
	for position := range word {
		tried[position] ^= 1
		behind[position] = len(failed(c, tried))
		tried[position] ^= 1
	}
	return behind
}
