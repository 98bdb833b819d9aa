package station_test

import (
	"fmt"
	"math/rand"
	"slices"
	"testing"

	"downtilt/api"
	"downtilt/station"
)

// TestCounterExamples is the example 5 of the chapter, and more.
func TestCounterExamples(t *testing.T) {
	for _, x := range []struct {
		readings []int
		total    int
	}{
		{nil, 0},
		{[]int{}, 0},
		{[]int{7}, 0},
		{[]int{65535}, 0},
		{[]int{65530, 5, 20}, 26},
		{[]int{7, 7, 7}, 0},
		{[]int{0, 65535}, 65535},
		{[]int{65535, 0}, 1},
		{[]int{1, 0}, 65535},
		{[]int{5, 4, 5}, 65536},
		{slices.Repeat([]int{1, 0}, 15), 15*65535 + 14},
	} {
		total, e := station.TotalOf(x.readings)
		expect(t, fmt.Sprint("TotalOf ", x.readings), total, e, x.total, api.OK)
	}
	for _, x := range []struct {
		good, all []int
		rate      api.Frac
	}{
		{[]int{0, 9}, []int{0, 12}, api.Frac{Num: 3, Den: 4}},
		{[]int{0, 0}, []int{0, 12}, api.Frac{Num: 0, Den: 1}},
		{nil, []int{0, 1}, api.Frac{Num: 0, Den: 1}},
		{[]int{3, 5, 8}, []int{65535, 4}, api.Frac{Num: 1, Den: 1}},
		{[]int{1, 0}, []int{1, 0, 65535}, api.Frac{Num: 1, Den: 2}},
		{[]int{0, 7}, []int{0, 15}, api.Frac{Num: 7, Den: 15}},
	} {
		rate, e := station.RateOf(x.good, x.all)
		expect(t, fmt.Sprint("RateOf ", x.good, x.all), rate, e, x.rate, api.OK)
	}
}

// TestTotals compares with a slow version, and looks at what follows (P10.16).
func TestTotals(t *testing.T) {
	r := rand.New(rand.NewSource(105))
	for range 100 {
		readings := randomReadings(r)
		total, e := station.TotalOf(readings)
		expect(t, fmt.Sprint("TotalOf ", readings), total, e, slowTotal(readings), api.OK)
		shifted := slices.Clone(readings)
		for i := range shifted {
			shifted[i] = (shifted[i] + 12345) % 65536
		}
		again, e := station.TotalOf(shifted)
		expect(t, fmt.Sprint("TotalOf ", shifted), again, e, total, api.OK)
		if len(readings) < 2 || len(readings) == api.MaxStationReadings {
			continue
		}
		i := 1 + r.Intn(len(readings)-1)
		between := readings[i-1] + upTo(r, (readings[i]-readings[i-1]+65536)%65536)
		more := slices.Insert(slices.Clone(readings), i, between%65536)
		again, e = station.TotalOf(more)
		expect(t, fmt.Sprint("TotalOf ", more), again, e, total, api.OK)
	}
}

// TestRates are parts of wholes, in lowest terms.
func TestRates(t *testing.T) {
	r := rand.New(rand.NewSource(106))
	seen := map[api.Errno]int{}
	for range 300 {
		good, all := randomReadings(r), randomReadings(r)
		if r.Intn(2) == 0 {
			good, all = []int{0, r.Intn(30)}, []int{0, r.Intn(60)}
		}
		part, whole := slowTotal(good), slowTotal(all)
		rate, e := station.RateOf(good, all)
		seen[e]++
		switch {
		case whole == 0:
			expect(t, fmt.Sprint("RateOf ", good, all), rate, e, api.Frac{}, api.ErrZero)
			continue
		case part > whole:
			expect(t, fmt.Sprint("RateOf ", good, all), rate, e, api.Frac{}, api.ErrBreak)
			continue
		}
		isLowest := rate.Den > 0 && rate.Num*whole == rate.Den*part
		for d := 2; d <= min(rate.Den, 2000); d++ {
			isLowest = isLowest && (rate.Num%d > 0 || rate.Den%d > 0)
		}
		if e != api.OK || !isLowest {
			t.Errorf("RateOf %v %v (%d / %d): %v, error %d", good, all, part, whole, rate, e)
		}
	}
	if seen[api.OK] < 50 || seen[api.ErrZero] < 5 || seen[api.ErrBreak] < 50 {
		t.Error(seen)
	}
}
