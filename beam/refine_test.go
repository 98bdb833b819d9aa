package beam_test

import (
	"fmt"
	"testing"

	"downtilt/api"
	"downtilt/beam"
)

// TestRefinedExample is the example 2 of the chapter.
func TestRefinedExample(t *testing.T) {
	looks, k, e := beam.Refined(5)
	var gains []api.BeamSquare
	for _, look := range looks {
		gains = append(gains, look.Gain)
	}
	expect(t, "gains", gains, e, []api.BeamSquare{{}, square(4, 0), square(16, 0), {}, {}, square(64, 0)}, api.OK)
	if k != 5 {
		t.Error("Refined ends with", k)
	}
	for i, want := range []api.BeamBeam{
		phased(0, -1, -1, -1, 0, -1, -1, -1),
		phased(0, -1, -1, -1, 4, -1, -1, -1),
		phased(0, -1, 6, -1, 4, -1, 2, -1),
		phased(0, -1, 2, -1, 4, -1, 6, -1),
		phased(0, 7, 6, 5, 4, 3, 2, 1),
		phased(0, 3, 6, 1, 4, 7, 2, 5),
	} {
		expect(t, fmt.Sprint("look ", i), looks[i].Beam, e, want, api.OK)
	}
}

// thinned is a steering beam of 8 antennas with only multiples of apart on.
func thinned(k, apart int) api.BeamBeam {
	b := must(beam.Steering(8, k))
	for i := range b.Phases {
		if i%apart != 0 {
			b.Phases[i] = -1
		}
	}
	return b
}

// TestRefined looks along both beams of each stage, and goes on with the better one; P5.9 holds.
func TestRefined(t *testing.T) {
	for step := range 8 {
		var want []api.BeamLook
		at := 0
		for _, stage := range [][2]int{{4, 1}, {2, 2}, {1, 4}} {
			first, second := thinned(at, stage[0]), thinned(at+stage[1], stage[0])
			here, there := sizeSquare(responseOf(first, step)), sizeSquare(responseOf(second, step))
			want = append(want, api.BeamLook{Beam: first, Gain: here}, api.BeamLook{Beam: second, Gain: there})
			if larger(there, here) > 0 {
				at += stage[1]
			}
		}
		looks, k, e := beam.Refined(step)
		expect(t, fmt.Sprint("Refined ", step), looks, e, want, api.OK)
		if k != step || at != step {
			t.Errorf("Refined for %d ends with %d", step, k)
		}
		best := must(beam.GainOf(must(beam.Steering(8, k)), step))
		for other := range 8 {
			gain := must(beam.GainOf(must(beam.Steering(8, other)), step))
			if n := must(beam.Larger(best, gain)); n < 0 || n == 0 && other != k {
				t.Errorf("for %d the beam of %d is as good as that of %d", step, other, k)
			}
		}
	}
}
