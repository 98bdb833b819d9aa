package wave_test

import (
	"math/rand"
	"testing"

	"downtilt/api"
	"downtilt/wave"
)

// offsetOf is the offset of samples as it is defined.
func offsetOf(known, x []api.WaveNumber) int {
	best, greatest := 0, api.WaveSquare{P: -1}
	for f := range 8 {
		var sum api.WaveNumber
		for n, k := range known {
			conjugate := number(k.A, -k.D, -k.C, -k.B)
			sum = plus(sum, times(times(conjugate, x[n]), power(-f*n)))
		}
		whole := times(sum, number(sum.A, -sum.D, -sum.C, -sum.B))
		if square := (api.WaveSquare{P: whole.A, Q: whole.B}); order(square, greatest) > 0 {
			best, greatest = f, square
		}
	}
	return best
}

// shiftedBy is samples that are turned on, as this is defined.
func shiftedBy(x []api.WaveNumber, f int) []api.WaveNumber {
	l := make([]api.WaveNumber, len(x))
	for n := range x {
		l[n] = times(x[n], power(f*n))
	}
	return l
}

func TestOffsetExamples(t *testing.T) {
	one, i := number(1, 0, 0, 0), number(0, 0, 1, 0)
	f, e := wave.OffsetOf([]api.WaveNumber{one, one}, []api.WaveNumber{one, i}) // the example 8 of the chapter
	expect(t, "OffsetOf", f, e, 2, api.OK)
	f, e = wave.OffsetOf([]api.WaveNumber{one}, []api.WaveNumber{i}) // all offsets are as good
	expect(t, "OffsetOf one sample", f, e, 0, api.OK)
	f, e = wave.OffsetOf([]api.WaveNumber{one, {}, one}, []api.WaveNumber{one, {}, number(-1, 0, 0, 0)}) // 2 is as good as 6
	expect(t, "OffsetOf two samples", f, e, 2, api.OK)
	f, e = wave.OffsetOf([]api.WaveNumber{{}, {}}, []api.WaveNumber{one, i})
	expect(t, "OffsetOf for nothing known", f, e, 0, api.OK)
	l, e := wave.Shifted([]api.WaveNumber{one, one, one, number(1, 2, 3, 4)}, 3)
	expect(t, "Shifted", l, e, []api.WaveNumber{one, power(3), power(6), number(-4, 1, 2, 3)}, api.OK)
	l, e = wave.Shifted(nil, 7)
	expect(t, "Shifted, of nothing", l, e, []api.WaveNumber(nil), api.OK)
}

func TestShiftedAsDefined(t *testing.T) {
	r := rand.New(rand.NewSource(16))
	for range 200 {
		x := randomNumbers(r, r.Intn(121), 1000000000)
		for f := range 8 {
			l, e := wave.Shifted(x, f)
			expect(t, "Shifted", l, e, shiftedBy(x, f), api.OK)
		}
	}
}

// TestOffsets is P4.14, and compares offsets of any samples with their definition.
func TestOffsets(t *testing.T) {
	r := rand.New(rand.NewSource(17))
	for range 1500 {
		count := 1 + r.Intn(16)
		most := []int{1, 2, 100}[r.Intn(3)]
		known, x := randomNumbers(r, count, most), randomNumbers(r, count, most)
		f, e := wave.OffsetOf(known, x)
		expect(t, "OffsetOf any samples", f, e, offsetOf(known, x), api.OK)
		if count > 1 && known[0] != (api.WaveNumber{}) && known[1] != (api.WaveNumber{}) {
			offset := r.Intn(8)
			f, e := wave.OffsetOf(known, must(wave.Shifted(known, offset)))
			expect(t, "OffsetOf what is turned on", f, e, offset, api.OK)
		}
	}
	for offset := range 8 { // the greatest sums
		known := make([]api.WaveNumber, 16)
		for n := range known {
			known[n] = number(100, -100, 100, 100)
		}
		f, e := wave.OffsetOf(known, shiftedBy(known, offset))
		expect(t, "OffsetOf the greatest samples", f, e, offset, api.OK)
	}
}
