package wave_test

import (
	"math/rand"
	"slices"
	"testing"

	"downtilt/api"
	"downtilt/wave"
)

// TestClippedExamples has the example 5 of the chapter.
func TestClippedExamples(t *testing.T) {
	for _, x := range []struct {
		x, want []api.Gauss
		limit   int
		squares int
	}{
		{[]api.Gauss{g(5, -7)}, []api.Gauss{g(5, -6)}, 6, 1},
		{[]api.Gauss{g(6, -6), g(-6, 6), g(7, 8), g(-9, -10)}, []api.Gauss{g(6, -6), g(-6, 6), g(6, 6), g(-6, -6)}, 6, 1 + 4 + 9 + 16},
		{[]api.Gauss{g(3, -4), g(0, 0)}, []api.Gauss{g(0, 0), g(0, 0)}, 0, 25},
		{[]api.Gauss{g(10000, -10000)}, []api.Gauss{g(10000, -10000)}, 10000, 0},
		{[]api.Gauss{g(10000, -10000)}, []api.Gauss{g(9999, -9999)}, 9999, 2},
		{nil, nil, 3, 0},
	} {
		l, e := wave.Clipped(x.x, x.limit)
		expect(t, "Clipped", l, e, x.want, api.OK)
		n, e := wave.ErrorOf(x.x, l)
		expect(t, "ErrorOf", n, e, x.squares, api.OK)
	}
	n, e := wave.ErrorOf(slices.Repeat([]api.Gauss{g(10000, -10000)}, 120), slices.Repeat([]api.Gauss{g(-10000, 10000)}, 120))
	expect(t, "the greatest error", n, e, 120*2*20000*20000, api.OK)
	n, e = wave.ErrorOf([]api.Gauss{g(1, 2), g(3, -4)}, []api.Gauss{g(2, -1), g(-2, 3)})
	expect(t, "ErrorOf", n, e, 1+9+25+49, api.OK)
}

// TestClipped is P4.11, and compares with the definition.
func TestClipped(t *testing.T) {
	r := rand.New(rand.NewSource(12))
	clip := func(part, limit int) int {
		if part > limit {
			return limit
		}
		if part < -limit {
			return -limit
		}
		return part
	}
	for range 500 {
		most := []int{3, 100, 10000}[r.Intn(3)]
		x := randomGauss(r, r.Intn(121), most)
		limit := r.Intn(most + 1)
		var want []api.Gauss
		squares := 0
		for _, v := range x {
			c := g(clip(v.Re, limit), clip(v.Im, limit))
			want = append(want, c)
			squares += (v.Re-c.Re)*(v.Re-c.Re) + (v.Im-c.Im)*(v.Im-c.Im)
		}
		l, e := wave.Clipped(x, limit)
		expect(t, "Clipped", l, e, want, api.OK)
		for _, v := range l {
			if max(v.Re, -v.Re, v.Im, -v.Im) > limit {
				t.Errorf("clipped to %d: %v", limit, v)
			}
		}
		again, e := wave.Clipped(l, limit)
		expect(t, "Clipped again", again, e, l, api.OK)
		before, e := wave.ErrorOf(x, l)
		expect(t, "ErrorOf", before, e, squares, api.OK)
		greater := must(wave.Clipped(x, min(limit+r.Intn(3), 10000)))
		behind, e := wave.ErrorOf(x, greater)
		if e != api.OK || behind > before {
			t.Errorf("the error is %d with the limit %d, and %d with a greater one", before, limit, behind)
		}
	}
}
