package beam_test

import (
	"fmt"
	"math"
	"math/rand"
	"slices"
	"testing"

	"downtilt/api"
	"downtilt/beam"
)

// responseOf adds up powers of w, one for each antenna that is on.
func responseOf(b api.BeamBeam, step int) number {
	var sum number
	for i, phase := range b.Phases {
		if phase >= 0 {
			sum = plus(sum, power(phase+i*step))
		}
	}
	return sum
}

func asNumber(x number) api.BeamNumber {
	return api.BeamNumber{A: x[0], B: x[1], C: x[2], D: x[3]}
}

func countOn(b api.BeamBeam) int {
	return len(b.Phases) - len(slices.DeleteFunc(slices.Clone(b.Phases), func(phase int) bool { return phase >= 0 }))
}

// allBeams is all right beams of so many antennas.
func allBeams(count int) []api.BeamBeam {
	l := []api.BeamBeam{{}}
	for range count {
		var longer []api.BeamBeam
		for _, b := range l {
			for phase := -1; phase < 8; phase++ {
				longer = append(longer, phased(append(slices.Clone(b.Phases), phase)...))
			}
		}
		l = longer
	}
	return slices.DeleteFunc(l, func(b api.BeamBeam) bool { return countOn(b) == 0 })
}

// manyBeams is all beams of few antennas, and some of more.
func manyBeams() []api.BeamBeam {
	r := rand.New(rand.NewSource(31))
	l := slices.Concat(allBeams(1), allBeams(2), allBeams(3), allBeams(4))
	for i := range 4000 {
		l = append(l, randomBeam(r, 5+i%4))
	}
	return l
}

// TestBeamExamples is the example 1 of the chapter.
func TestBeamExamples(t *testing.T) {
	b, e := beam.Steering(4, 1)
	expect(t, "Steering(4, 1)", b, e, phased(0, 7, 6, 5), api.OK)
	for step, want := range map[int]api.BeamSquare{1: square(16, 0), 2: square(4, 2), 3: square(0, 0), 5: square(0, 0), 7: square(0, 0)} {
		gain, e := beam.GainOf(b, step)
		expect(t, fmt.Sprint("GainOf at ", step), gain, e, want, api.OK)
	}
	x, e := beam.ResponseOf(b, 2)
	expect(t, "ResponseOf at 2", x, e, api.BeamNumber{A: 1, B: 1, C: 1, D: 1}, api.OK)
	nulls, e := beam.Nulls(b)
	expect(t, "Nulls", nulls, e, []int{3, 5, 7}, api.OK)
	x, e = beam.ResponseOf(phased(-1, 4, -1, 6), 3)
	expect(t, "ResponseOf two antennas", x, e, api.BeamNumber{D: -2}, api.OK)
	x, e = beam.ResponseOf(phased(1, 2), 1)
	expect(t, "ResponseOf with w", x, e, api.BeamNumber{B: 1, D: 1}, api.OK)
}

func TestCheckBeam(t *testing.T) {
	for _, x := range []struct {
		b       api.BeamBeam
		antenna int
		e       api.Errno
	}{
		{phased(), 0, api.ErrShape},
		{phased(0), 0, api.OK},
		{phased(7, -1), 0, api.OK},
		{phased(-1, -1, 3), 0, api.OK},
		{phased(0, 1, 2, 3, 4, 5, 6, 7), 0, api.OK},
		{phased(8), 0, api.ErrRange},
		{phased(0, 7, -2, 8), 2, api.ErrRange},
		{phased(-1, 8), 1, api.ErrRange},
		{phased(-1, -1, math.MinInt), 2, api.ErrRange},
		{phased(0, 0, 0, 0, 0, 0, 0, math.MaxInt), 7, api.ErrRange},
		{phased(0, 0, 0, 0, 0, 0, 0, 0, 9), 0, api.ErrLarge},
		{phased(-1), 0, api.ErrZero},
		{phased(-1, -1, -1, -1, -1, -1, -1, -1), 0, api.ErrZero},
	} {
		antenna, e := beam.CheckBeam(x.b)
		expect(t, fmt.Sprint("CheckBeam of ", x.b), antenna, e, x.antenna, x.e)
	}
}

// TestSteering compares phases with the definition, and is P5.8 for steering beams.
func TestSteering(t *testing.T) {
	for antennas := 1; antennas <= 8; antennas++ {
		for step := range 8 {
			want := phased(make([]int, antennas)...)
			for i := range antennas {
				want.Phases[i] = (-i*step + 64) % 8
			}
			b, e := beam.Steering(antennas, step)
			expect(t, fmt.Sprint("Steering ", antennas, step), b, e, want, api.OK)
			gain, e := beam.GainOf(b, step)
			expect(t, fmt.Sprint("GainOf ", b, step), gain, e, square(antennas*antennas, 0), api.OK)
		}
	}
}

// TestResponses compares responses, gains and nulls with sums of powers; P5.8 and P5.10 hold for them.
func TestResponses(t *testing.T) {
	for _, b := range manyBeams() {
		on := countOn(b)
		var nulls []int
		all := square(0, 0)
		for step := range 8 {
			want := responseOf(b, step)
			x, e := beam.ResponseOf(b, step)
			expect(t, fmt.Sprint("ResponseOf ", b, step), x, e, asNumber(want), api.OK)
			gain, e := beam.GainOf(b, step)
			expect(t, fmt.Sprint("GainOf ", b, step), gain, e, sizeSquare(want), api.OK)
			if want == (number{}) {
				nulls = append(nulls, step)
			}
			if n := must(beam.Larger(gain, square(on*on, 0))); n > 0 {
				t.Errorf("the gain %v of %v is greater than the square of %d", gain, b, on)
			}
			all = square(all.P+gain.P, all.Q+gain.Q)
		}
		if all != square(8*on, 0) {
			t.Errorf("the gains of %v come to %v", b, all)
		}
		l, e := beam.Nulls(b)
		expect(t, fmt.Sprint("Nulls of ", b), l, e, nulls, api.OK)
		if antenna, e := beam.CheckBeam(b); antenna != 0 || e != api.OK {
			t.Errorf("CheckBeam of %v: %d, error %d", b, antenna, e)
		}
	}
}

// TestOneAntenna has the same gain everywhere.
func TestOneAntenna(t *testing.T) {
	for phase := range 8 {
		for step := range 8 {
			gain, e := beam.GainOf(phased(phase), step)
			expect(t, "GainOf of one antenna", gain, e, square(1, 0), api.OK)
		}
		nulls, e := beam.Nulls(phased(phase))
		expect(t, "Nulls of one antenna", nulls, e, []int(nil), api.OK)
	}
}
