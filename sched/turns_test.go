package sched_test

import (
	"fmt"
	"math/rand"
	"slices"
	"testing"

	"downtilt/api"
	"downtilt/sched"
)

type turnsAndTotal struct {
	turns []int
	total int
}

// bestTurns puts both results into one value.
func bestTurns(r [][]int) (turnsAndTotal, api.Errno) {
	turns, total, e := sched.BestTurns(r)
	return turnsAndTotal{turns, total}, e
}

// TestTurnsExample is the example 6 of the chapter.
func TestTurnsExample(t *testing.T) {
	r := [][]int{{4, 1}, {3, 3}, {1, 4}}
	x, e := bestTurns(r)
	expect(t, "BestTurns", x, e, turnsAndTotal{[]int{0, 0, 1}, 4}, api.OK)
	for _, x := range []turnsAndTotal{{[]int{0, 0, 1}, 4}, {[]int{0, 1, 1}, 4}, {[]int{0, 0, 0}, 0}, {[]int{1, 1, 0}, 1}, {[]int{1, 0, 0}, 1}, {[]int{1, 1, 1}, 0}} {
		n, e := sched.TurnsOf(r, x.turns)
		expect(t, fmt.Sprint("TurnsOf ", x.turns), n, e, x.total, api.OK)
	}
	bound, e := sched.CheckBound(r, []int{1, 1})
	expect(t, "CheckBound", bound, e, [2]int{11, 2}, api.OK)
}

func TestBestTurns(t *testing.T) {
	const most = 1000000
	for _, x := range []struct {
		r    [][]int
		want turnsAndTotal
	}{
		{[][]int{{7}}, turnsAndTotal{[]int{0}, 7}},
		{[][]int{{0}}, turnsAndTotal{[]int{0}, 0}},
		{[][]int{{7}, {0}, {3}}, turnsAndTotal{[]int{0, 0, 0}, 10}},
		{[][]int{{7, 7, 7}, {7, 7, 7}}, turnsAndTotal{[]int{0, 0}, 0}},
		{[][]int{{1, 1}, {1, 1}}, turnsAndTotal{[]int{0, 1}, 1}},
		{[][]int{{0, 0}, {0, 0}}, turnsAndTotal{[]int{0, 0}, 0}},
		{[][]int{{0, 9}, {9, 0}}, turnsAndTotal{[]int{1, 0}, 9}},
		{[][]int{{1, 2, 3, 4}, {1, 2, 3, 4}, {1, 2, 3, 4}, {1, 2, 3, 4}}, turnsAndTotal{[]int{0, 1, 2, 3}, 1}},
		{slices.Repeat([][]int{{most, most, most, most}}, 6), turnsAndTotal{[]int{0, 0, 0, 1, 2, 3}, most}},
		{slices.Repeat([][]int{{most}}, 6), turnsAndTotal{[]int{0, 0, 0, 0, 0, 0}, 6 * most}},
		{[][]int{{0, 0, 1}, {0, 1, 0}, {1, 0, 0}, {0, 0, 0}, {0, 0, 0}, {0, 0, 0}}, turnsAndTotal{[]int{2, 1, 0, 0, 0, 0}, 1}},
	} {
		got, e := bestTurns(x.r)
		expect(t, fmt.Sprint("BestTurns ", x.r), got, e, x.want, api.OK)
	}
}

// totals is the least total of each choice, each told by the digits of a number.
func totals(r [][]int) []turnsAndTotal {
	users := len(r[0])
	all := 1
	for range r {
		all *= users
	}
	l := make([]turnsAndTotal, all)
	for n := range all {
		sums := make([]int, users)
		l[n].turns = make([]int, len(r))
		for i, digits := len(r)-1, n; i >= 0; i-- {
			user := digits % users
			digits /= users
			l[n].turns[i] = user
			sums[user] += r[i][user]
		}
		l[n].total = slices.Min(sums)
	}
	return l
}

// bound is of a small case whose turns have users.
func bound(r [][]int, weights []int) (num, den int) {
	for _, rates := range r {
		products := make([]int, len(rates))
		for i, rate := range rates {
			products[i] = rate * weights[i]
		}
		num += slices.Max(products)
	}
	return num, sumOf(weights)
}

// TestTurns looks at all choices; it is P6.12 too.
func TestTurns(t *testing.T) {
	r := rand.New(rand.NewSource(72))
	for range 400 {
		x := randomCase(r)
		all := totals(x)
		want := slices.MaxFunc(all, func(a, b turnsAndTotal) int { return a.total - b.total })
		got, e := bestTurns(x)
		expect(t, fmt.Sprint("BestTurns ", x), got, e, want, api.OK)
		for range 20 {
			choice := all[r.Intn(len(all))]
			n, e := sched.TurnsOf(x, choice.turns)
			expect(t, fmt.Sprint("TurnsOf ", x, choice.turns), n, e, choice.total, api.OK)
			if n > got.total {
				t.Errorf("%v: %v is better than %v", x, choice, got)
			}
			weights := randomWeights(r, len(x[0]))
			num, den := bound(x, weights)
			limit := ratio(num, den)
			f, e := sched.CheckBound(x, weights)
			expect(t, fmt.Sprint("CheckBound ", x, weights), f, e, [2]int{int(limit.Num().Int64()), int(limit.Denom().Int64())}, api.OK)
			if ratio(got.total, 1).Cmp(ratio(f[0], f[1])) > 0 {
				t.Errorf("%v: %v is above the bound %v of %v", x, got, f, weights)
			}
		}
	}
}

func TestCheckBound(t *testing.T) {
	for _, x := range []struct {
		r       [][]int
		weights []int
		want    [2]int
	}{
		{[][]int{{4, 1}, {3, 3}, {1, 4}}, []int{1, 0}, [2]int{8, 1}},
		{[][]int{{4, 1}, {3, 3}, {1, 4}}, []int{0, 100}, [2]int{8, 1}},
		{[][]int{{4, 1}, {3, 3}, {1, 4}}, []int{2, 2}, [2]int{11, 2}},
		{[][]int{{4, 1}, {3, 3}, {1, 4}}, []int{3, 1}, [2]int{25, 4}},
		{[][]int{{0, 1}}, []int{1, 0}, [2]int{0, 1}},
		{[][]int{{0, 0}}, []int{50, 50}, [2]int{0, 1}},
		{slices.Repeat([][]int{{1000000, 1000000, 1000000, 1000000}}, 6), []int{100, 0, 0, 0}, [2]int{6000000, 1}},
		{slices.Repeat([][]int{{1000000, 1000000, 1000000, 999999}}, 6), []int{99, 98, 97, 100}, [2]int{299999700, 197}},
	} {
		f, e := sched.CheckBound(x.r, x.weights)
		expect(t, fmt.Sprint("CheckBound ", x.r, x.weights), f, e, x.want, api.OK)
	}
}
