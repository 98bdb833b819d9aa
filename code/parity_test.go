package code_test

import (
	"math"
	"math/rand"
	"slices"
	"sync"
	"testing"

	"downtilt/api"
	"downtilt/code"
)

// twoRows is the parity-check code of the chapter's examples.
func twoRows() api.CodeParity {
	return api.CodeParity{Info: 2, Rows: [][]int{{0, 1, 2}, {1, 3}}}
}

// largest has as much of all as a parity-check code may have.
func largest() api.CodeParity {
	c := api.CodeParity{Info: 40}
	for i := range 20 {
		c.Rows = append(c.Rows, []int{0, 1, 2, 3, 4, 5, 6, 40 + i})
	}
	return c
}

func TestCheckParity(t *testing.T) {
	for _, w := range wrongParities() {
		n, e := code.CheckParity(w.c)
		if n != w.row || e != w.e {
			t.Errorf("CheckParity(%v): %d, %d, want %d, %d", w.c, n, e, w.row, w.e)
		}
	}
	for _, c := range []api.CodeParity{twoRows(), largest(), {Info: 1, Rows: [][]int{{0, 1}}}, {Info: 2, Rows: [][]int{{0, 2}, {2, 3}}}} {
		if n, e := code.CheckParity(c); n != 0 || e != api.OK {
			t.Errorf("CheckParity(%v): %d, %d", c, n, e)
		}
	}
}

type parityArguments struct {
	c                api.CodeParity
	bits, word, soft []int
	rounds           int
}

func TestErrorsOfParityCodes(t *testing.T) {
	fresh := func() parityArguments {
		return parityArguments{twoRows(), bitsOf("11"), bitsOf("1001"), []int{3, -4, 5, -2}, 1}
	}
	codes := spoils("code", wrongParityCodes(), func(a *parityArguments, c api.CodeParity) { a.c = c })
	many := append(wrongBits(), wrong[[]int]{bitsOf("1"), api.ErrShape}, wrong[[]int]{bitsOf("1101"), api.ErrShape})
	bits := spoils("bits", many, func(a *parityArguments, b []int) { a.bits = b })
	many = append(wrongBits(), wrong[[]int]{bitsOf("11"), api.ErrShape}, wrong[[]int]{bitsOf("11010"), api.ErrShape})
	word := spoils("word", many, func(a *parityArguments, b []int) { a.word = b })
	many = append(wrongSoft(), wrong[[]int]{[]int{1, 2, 3}, api.ErrShape}, wrong[[]int]{make([]int, 400), api.ErrShape})
	soft := spoils("soft", many, func(a *parityArguments, s []int) { a.soft = s })
	few := []wrong[int]{{-1, api.ErrRange}, {6, api.ErrRange}, {math.MinInt, api.ErrRange}, {math.MaxInt, api.ErrRange}}
	rounds := spoils("rounds", few, func(a *parityArguments, n int) { a.rounds = n })
	checkErrors(t, "EncodeParity", fresh, func(a parityArguments) ([]int, api.Errno) { return code.EncodeParity(a.c, a.bits) }, codes, bits)
	checkErrors(t, "Failed", fresh, func(a parityArguments) ([]int, api.Errno) { return code.Failed(a.c, a.word) }, codes, word)
	checkErrors(t, "Flip", fresh, func(a parityArguments) (pair[[]int, int], api.Errno) { return both(code.Flip(a.c, a.word)) }, codes, word)
	checkErrors(t, "LeastSums", fresh, func(a parityArguments) ([]int, api.Errno) { return code.LeastSums(a.c, a.soft, a.rounds) }, codes, soft, rounds)
}

func TestParityExamples(t *testing.T) {
	c := twoRows()
	word, e := code.EncodeParity(c, bitsOf("11"))
	expect(t, "EncodeParity", word, e, bitsOf("1101"), api.OK)
	rows, e := code.Failed(c, bitsOf("1001"))
	expect(t, "Failed", rows, e, []int{0, 1}, api.OK)
	rows, e = code.Failed(c, bitsOf("1101"))
	expect(t, "Failed of a word", rows, e, []int{}, api.OK)
	rows, e = code.Failed(c, bitsOf("1100"))
	expect(t, "Failed of the later row", rows, e, []int{1}, api.OK)
	word, n, e := code.Flip(c, bitsOf("1001"))
	expect(t, "Flip", pair[[]int, int]{word, n}, e, pair[[]int, int]{bitsOf("1101"), 1}, api.OK)
	word, n, e = code.Flip(c, bitsOf("1101"))
	expect(t, "Flip of a word", pair[[]int, int]{word, n}, e, pair[[]int, int]{bitsOf("1101"), 0}, api.OK)
	// of the bits 0 and 2, which are as good, the first one
	word, n, e = code.Flip(c, bitsOf("1000"))
	expect(t, "Flip of the first one", pair[[]int, int]{word, n}, e, pair[[]int, int]{bitsOf("0000"), 1}, api.OK)
	// a check bit that is looked at by a later row
	d := api.CodeParity{Info: 1, Rows: [][]int{{0, 1}, {1, 2}, {0, 1, 2, 3}}}
	word, e = code.EncodeParity(d, bitsOf("1"))
	expect(t, "EncodeParity of later rows", word, e, bitsOf("1111"), api.OK)
}

func TestLeastSumsExamples(t *testing.T) {
	c := twoRows()
	soft := []int{3, -4, 5, -2}
	l, e := code.LeastSums(c, soft, 0)
	expect(t, "LeastSums of no round", l, e, soft, api.OK)
	l, e = code.LeastSums(c, soft, 1)
	expect(t, "LeastSums", l, e, []int{-1, -3, 2, -6}, api.OK)
	// in the second round the bit 1 tells the row 0 -4 - 2 = -6, and the row 1 -4 + 3 = -1; all others tell their soft bits
	l, e = code.LeastSums(c, soft, 2)
	expect(t, "LeastSums of two rounds", l, e, []int{3 - 5, -4 + 3 - 2, 5 - 3, -2 - 1}, api.OK)
	// one 0 in a row makes all messages to the others 0
	l, e = code.LeastSums(c, []int{0, -4, 5, -2}, 1)
	expect(t, "LeastSums with a 0", l, e, []int{-4, -6, 5, -6}, api.OK)
	l, e = code.LeastSums(c, []int{0, -4, 0, -2}, 1)
	expect(t, "LeastSums with two", l, e, []int{0, -6, 0, -6}, api.OK)
}

// failedSlowly counts the ones at the positions of each row.
func failedSlowly(c api.CodeParity, word []int) []int {
	var l []int
	for i, row := range c.Rows {
		ones := 0
		for _, position := range row {
			ones += word[position]
		}
		if ones%2 != 0 {
			l = append(l, i)
		}
	}
	return l
}

// flippedSlowly makes a word for each bit that may be changed.
func flippedSlowly(c api.CodeParity, word []int) ([]int, int) {
	now := slices.Clone(word)
	for changes := 0; ; changes++ {
		best := now
		for position := range now {
			next := changed(now, position, []int{1})
			if len(failedSlowly(c, next)) < len(failedSlowly(c, best)) {
				best = next
			}
		}
		if slices.Equal(best, now) {
			return now, changes
		}
		now = best
	}
}

// leastSumsSlowly asks each position anew what it tells each row.
func leastSumsSlowly(c api.CodeParity, soft []int, rounds int) []int {
	said := map[[2]int]int{}
	hears := func(position, but int) int {
		n := soft[position]
		for i := range c.Rows {
			if i != but {
				n += said[[2]int{i, position}]
			}
		}
		return n
	}
	for range rounds {
		next := map[[2]int]int{}
		for i, row := range c.Rows {
			for _, to := range row {
				size, sign := math.MaxInt, 1
				for _, from := range row {
					if n := hears(from, i); from != to {
						size = min(size, sizeOf(n))
						if n < 0 {
							sign = -sign
						}
					}
				}
				next[[2]int{i, to}] = size * sign
			}
		}
		said = next
	}
	var totals []int
	for position := range soft {
		totals = append(totals, hears(position, -1))
	}
	return totals
}

// TestParityCodesAsDefined has P2.13 too.
func TestParityCodesAsDefined(t *testing.T) {
	r := rand.New(rand.NewSource(6))
	for range 1500 {
		c := randomParity(r, 1+r.Intn(40), 1+r.Intn(20))
		sent := randomBits(r, c.Info)
		word, e := code.EncodeParity(c, sent)
		if e != api.OK || len(word) != c.Info+len(c.Rows) || !slices.Equal(word[:c.Info], sent) || len(failedSlowly(c, word)) > 0 {
			t.Fatalf("EncodeParity(%v, %v): %v, %d", c, sent, word, e)
		}
		rows, e := code.Failed(c, word)
		expect(t, "Failed of a word", rows, e, []int{}, api.OK)
		heard := randomBits(r, len(word))
		rows, e = code.Failed(c, heard)
		expect(t, "Failed", rows, e, failedSlowly(c, heard), api.OK)
		want, changes := flippedSlowly(c, heard)
		got, n, e := code.Flip(c, heard)
		expect(t, "Flip", pair[[]int, int]{got, n}, e, pair[[]int, int]{want, changes}, api.OK)
		left := len(failedSlowly(c, got))
		if left > len(rows) {
			t.Fatalf("Flip(%v, %v) leaves %d failed rows of %d", c, heard, left, len(rows))
		}
		for position := range got {
			if len(failedSlowly(c, changed(got, position, []int{1}))) < left {
				t.Fatalf("Flip(%v, %v) might change %d", c, heard, position)
			}
		}
	}
}

// TestFlipMayChangeABitTwice counts each change: the bit 0 is changed first and last.
func TestFlipMayChangeABitTwice(t *testing.T) {
	c := api.CodeParity{Info: 3, Rows: [][]int{{0, 1, 3}, {0, 2, 4}, {0, 5}, {1, 6}, {1, 7}, {2, 8}, {2, 9}}}
	heard := bitsOf("0001111111")
	want, changes := flippedSlowly(c, heard)
	if changes != 5 || want[0] != 0 {
		t.Fatalf("slowly: %v, %d", want, changes)
	}
	got, n, e := code.Flip(c, heard)
	expect(t, "Flip", pair[[]int, int]{got, n}, e, pair[[]int, int]{want, changes}, api.OK)
}

func TestLeastSumsAsDefined(t *testing.T) {
	r := rand.New(rand.NewSource(7))
	for range 400 {
		c := randomParity(r, 1+r.Intn(40), 1+r.Intn(20))
		soft := randomSoft(r, c.Info+len(c.Rows), []int{2, 1000, 1000000}[r.Intn(3)])
		for rounds := range 6 {
			l, e := code.LeastSums(c, soft, rounds)
			expect(t, "LeastSums", l, e, leastSumsSlowly(c, soft, rounds), api.OK)
		}
		// P2.11: the signs of a word are kept in each round
		word := must(code.EncodeParity(c, randomBits(r, c.Info)))
		for rounds := range 6 {
			l := must(code.LeastSums(c, softOf(r, word, 1000000), rounds))
			for i, b := range word {
				if l[i] == 0 || (l[i] < 0) != (b == 1) {
					t.Fatalf("LeastSums of %v in %v, %d rounds: %v", word, c, rounds, l)
				}
			}
		}
	}
	c := largest()
	for _, soft := range [][]int{slices.Repeat([]int{1000000}, 60), slices.Repeat([]int{-1000000}, 60)} {
		l, e := code.LeastSums(c, soft, 5)
		expect(t, "LeastSums of the largest code", l, e, leastSumsSlowly(c, soft, 5), api.OK)
	}
}

// TestLeastSumsAtOnce asks many times at once for the same arguments, which are only read.
func TestLeastSumsAtOnce(t *testing.T) {
	c := largest()
	soft := randomSoft(rand.New(rand.NewSource(8)), 60, 1000)
	want := leastSumsSlowly(c, soft, 5)
	results := make([][]int, 16)
	var all sync.WaitGroup
	for i := range results {
		all.Go(func() {
			for range 50 {
				results[i], _ = code.LeastSums(c, soft, 5)
			}
		})
	}
	all.Wait()
	for _, l := range results {
		expect(t, "LeastSums at once", l, api.OK, want, api.OK)
	}
}
