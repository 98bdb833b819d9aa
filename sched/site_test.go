package sched_test

import (
	"fmt"
	"math"
	"math/rand"
	"slices"
	"testing"

	"downtilt/api"
	"downtilt/sched"
)

// TestRightSites is of sites at the ends of what they may be.
func TestRightSites(t *testing.T) {
	for _, s := range []api.SchedSite{
		exampleSite(),
		{Blocks: 1, Control: 1, Table: []int{0}},
		{Blocks: 20, Control: 8, Power: 100000, Table: slices.Repeat([]int{1000}, 16)},
		{Blocks: 5, Control: 2, Power: 1, Table: make([]int, 16)},
		{Blocks: 5, Control: 2, Power: 1, Table: []int{0, 0, 1, 1, 999, 1000, 1000}},
	} {
		e := sched.CheckSite(s)
		expect(t, fmt.Sprint("CheckSite ", s), e, e, api.OK, api.OK)
	}
}

func TestRateOf(t *testing.T) {
	for report, want := range []int{0, 10, 20, 40} {
		rate, e := sched.RateOf(exampleSite(), report)
		expect(t, fmt.Sprint("RateOf ", report), rate, e, want, api.OK)
	}
	full := api.SchedSite{Blocks: 1, Control: 1, Table: []int{0, 1, 2, 3, 4, 5, 6, 7, 8, 9, 10, 11, 12, 13, 14, 1000}}
	rate, e := sched.RateOf(full, 15)
	expect(t, "RateOf the last one", rate, e, 1000, api.OK)
	for _, report := range []int{-1, 4, math.MinInt, math.MaxInt} {
		rate, e := sched.RateOf(exampleSite(), report)
		expect(t, fmt.Sprint("RateOf ", report), rate, e, 0, api.ErrRange)
	}
}

// loop has the limits -50 to 50.
func loop(offset, up, down int) api.SchedLoop {
	return api.SchedLoop{Offset: offset, Up: up, Down: down, Limits: api.Range{Lo: -50, Hi: 50}}
}

// TestLoopExample is the example 7 of the chapter.
func TestLoopExample(t *testing.T) {
	l, e := sched.LoopAfter(loop(0, 1, 9), []bool{true, true, true, false})
	expect(t, "LoopAfter", l, e, loop(-6, 1, 9), api.OK)
	n, e := sched.Adapted(l, 5)
	expect(t, "Adapted", n, e, 4, api.OK)
}

func TestRightLoops(t *testing.T) {
	for _, l := range []api.SchedLoop{
		{},
		{Offset: -200, Up: 200, Down: 200, Limits: api.Range{Lo: -200, Hi: 200}},
		{Offset: 200, Limits: api.Range{Lo: -200, Hi: 200}},
		{Offset: 200, Up: 1, Limits: api.Range{Lo: 200, Hi: 200}},
		{Offset: -200, Down: 1, Limits: api.Range{Lo: -200, Hi: -200}},
	} {
		after, e := sched.LoopAfter(l, nil)
		expect(t, fmt.Sprint("LoopAfter ", l), after, e, l, api.OK)
	}
}

// TestAdapted tries all offsets and reports.
func TestAdapted(t *testing.T) {
	for offset := -200; offset <= 200; offset++ {
		for report := range 16 {
			want := int(math.Floor(float64(offset)/10)) + report
			want = slices.Max([]int{0, slices.Min([]int{15, want})})
			n, e := sched.Adapted(api.SchedLoop{Offset: offset, Limits: api.Range{Lo: offset, Hi: 200}}, report)
			expect(t, fmt.Sprint("Adapted ", offset, report), n, e, want, api.OK)
		}
	}
	for _, x := range [][3]int{{-1, 1, 0}, {-9, 8, 7}, {-10, 8, 7}, {-11, 8, 6}, {9, 8, 8}, {10, 8, 9}, {0, 0, 0}, {0, 15, 15}, {10, 15, 15}, {9, 15, 15}, {-10, 0, 0}, {-10, 15, 14}} {
		n, e := sched.Adapted(loop(x[0], 0, 0), x[1])
		expect(t, fmt.Sprint("Adapted ", x), n, e, x[2], api.OK)
	}
}

func TestLoopAfter(t *testing.T) {
	narrow := func(offset int) api.SchedLoop {
		return api.SchedLoop{Offset: offset, Up: 3, Down: 7, Limits: api.Range{Lo: -5, Hi: 4}}
	}
	for _, x := range []struct {
		acks []bool
		want int
	}{
		{nil, 0},
		{[]bool{true}, 3},
		{[]bool{false}, -5},
		{[]bool{true, true}, 4},
		{[]bool{true, true, false}, -3},
		{[]bool{true, false, true}, -1},
		{[]bool{false, true, true}, 1},
		{[]bool{true, true, true, true, true, true, false}, -3},
		{slices.Repeat([]bool{true}, 1000), 4},
		{slices.Repeat([]bool{false}, 1000), -5},
		{slices.Repeat([]bool{false, true}, 500), -2},
	} {
		l, e := sched.LoopAfter(narrow(0), x.acks)
		expect(t, fmt.Sprintf("LoopAfter %.40v", fmt.Sprint(x.acks)), l, e, narrow(x.want), api.OK)
	}
}

// TestOtherOrder is the second part of P6.13: no limit is reached.
func TestOtherOrder(t *testing.T) {
	r := rand.New(rand.NewSource(61))
	for range 500 {
		l := api.SchedLoop{Up: r.Intn(5), Down: r.Intn(5), Limits: api.Range{Lo: -200, Hi: 200}}
		l.Offset = r.Intn(21) - 10
		acks := make([]bool, r.Intn(40))
		want := l
		for i := range acks {
			acks[i] = r.Intn(2) == 0
			if acks[i] {
				want.Offset += l.Up
			} else {
				want.Offset -= l.Down
			}
		}
		for range 3 {
			after, e := sched.LoopAfter(l, acks)
			expect(t, fmt.Sprint("LoopAfter ", l, acks), after, e, want, api.OK)
			r.Shuffle(len(acks), func(i, j int) { acks[i], acks[j] = acks[j], acks[i] })
		}
	}
}
