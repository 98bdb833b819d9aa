package wave_test

import (
	"math/rand"
	"testing"

	"downtilt/api"
	"downtilt/wave"
)

// samplesOf is the samples of entries as they are defined.
func samplesOf(x [8]api.Gauss) [8]api.WaveNumber {
	var y [8]api.WaveNumber
	for n := range 8 {
		for k := range 8 {
			y[n] = plus(y[n], times(asNumber(x[k]), power(k*n)))
		}
	}
	return y
}

// transformOf is the transform of samples as it is defined.
func transformOf(x [8]api.WaveNumber) [8]api.WaveNumber {
	var y [8]api.WaveNumber
	for k := range 8 {
		for n := range 8 {
			y[k] = plus(y[k], times(x[n], power(-k*n)))
		}
	}
	return y
}

// eighth is the eighth part of numbers, if these are whole complex ones.
func eighth(l [8]api.WaveNumber) ([8]api.Gauss, bool) {
	var y [8]api.Gauss
	for k, x := range l {
		if x.B != 0 || x.D != 0 || x.A/8*8 != x.A || x.C/8*8 != x.C {
			return [8]api.Gauss{}, false
		}
		y[k] = g(x.A/8, x.C/8)
	}
	return y, true
}

// fours has sums with powers of i, or of -i.
func fours(x [4]api.Gauss, sign int) [4]api.Gauss {
	var y [4]api.Gauss
	for n := range 4 {
		for k := range 4 {
			p := times(asNumber(x[k]), power(2*sign*k*n))
			y[n] = g(y[n].Re+p.A, y[n].Im+p.C)
		}
	}
	return y
}

// TestTransformExamples is the examples 2 and 5 of the chapter.
func TestTransformExamples(t *testing.T) {
	one := [8]api.Gauss{1: g(1, 0)}
	want := [8]api.WaveNumber{}
	for n := range want {
		want[n] = power(n)
	}
	s, e := wave.Samples(one)
	expect(t, "Samples", s, e, want, api.OK)
	y, e := wave.Transform(s)
	expect(t, "Transform", y, e, [8]api.WaveNumber{1: number(8, 0, 0, 0)}, api.OK)
	x, e := wave.Spectrum(s)
	expect(t, "Spectrum", x, e, one, api.OK)
	f, e := wave.Four([4]api.Gauss{1: g(1, 0)})
	expect(t, "Four", f, e, [4]api.Gauss{g(1, 0), g(0, 1), g(-1, 0), g(0, -1)}, api.OK)
	f, e = wave.FourBack(f)
	expect(t, "FourBack", f, e, [4]api.Gauss{1: g(1, 0)}, api.OK)
}

// TestTransformsThereAndBack compares transforms with their definitions, and is P4.9.
func TestTransformsThereAndBack(t *testing.T) {
	r := rand.New(rand.NewSource(3))
	for range 1000 {
		entries := [8]api.Gauss(randomGauss(r, 8, []int{1, 10, 10000}[r.Intn(3)]))
		s, e := wave.Samples(entries)
		expect(t, "Samples", s, e, samplesOf(entries), api.OK)
		y, e := wave.Transform(s)
		expect(t, "Transform", y, e, transformOf(s), api.OK)
		x, e := wave.Spectrum(s)
		expect(t, "Spectrum", x, e, entries, api.OK)
		var squares api.WaveSquare
		energy := 0
		for n := range 8 {
			square := must(wave.SquareOf(s[n]))
			squares.P += square.P
			squares.Q += square.Q
			energy += entries[n].Re*entries[n].Re + entries[n].Im*entries[n].Im
		}
		expect(t, "the sums of the squares", squares, api.OK, api.WaveSquare{P: 8 * energy}, api.OK)
	}
}

// TestTransformsOfAnySamples is of samples that need not have entries.
func TestTransformsOfAnySamples(t *testing.T) {
	r := rand.New(rand.NewSource(4))
	right, large := 0, 0
	for range 1000 {
		samples := [8]api.WaveNumber(randomNumbers(r, 8, []int{1, 10, 200000000, 1000000000}[r.Intn(4)]))
		want := transformOf(samples)
		y, e := wave.Transform(samples)
		if isSmall(want[:]...) {
			right++
			expect(t, "Transform", y, e, want, api.OK)
		} else {
			large++
			expect(t, "Transform", y, e, [8]api.WaveNumber{}, api.ErrLarge)
		}
		x, e := wave.Spectrum(samples)
		expect(t, "Spectrum", x, e, [8]api.Gauss{}, api.ErrForm)
	}
	if right < 200 || large < 200 {
		t.Errorf("%d transforms were right, %d too large", right, large)
	}
}

// TestSpectraThatAreNotWhole changes one value of a transform, the samples of which are those times 8.
func TestSpectraThatAreNotWhole(t *testing.T) {
	r := rand.New(rand.NewSource(5))
	wrong := 0
	for range 2000 {
		entries := [8]api.Gauss(randomGauss(r, 8, 100))
		samples := samplesOf(entries)
		i, eighths := r.Intn(8), r.Intn(8)
		switch r.Intn(3) {
		case 0: // one sample alone
			samples[i] = plus(samples[i], power(eighths))
		case 1: // the subcarrier i by a power of w: whole only if this is one of i
			for n := range samples {
				samples[n] = plus(samples[n], power(i*n+eighths))
			}
		case 2: // the subcarrier i by half of a power of w, and the one beyond it by as much
			for n := 0; n < 8; n += 2 {
				samples[n] = plus(samples[n], power(i*n+eighths))
			}
		}
		want, whole := eighth(transformOf(samples))
		x, e := wave.Spectrum(samples)
		if whole {
			expect(t, "Spectrum", x, e, want, api.OK)
		} else {
			wrong++
			expect(t, "Spectrum", x, e, [8]api.Gauss{}, api.ErrForm)
		}
	}
	if wrong < 500 || wrong > 1800 {
		t.Errorf("%d of 2000 spectra were wrong", wrong)
	}
}

// TestSpectraByTheirParts is of samples with one value that is not whole, in one of its parts alone.
func TestSpectraByTheirParts(t *testing.T) {
	for eighths := range 8 {
		for by := range 17 {
			for k := range 8 {
				var samples [8]api.WaveNumber
				for n := range samples { // by times w to the power eighths on the subcarrier k
					samples[n] = times(number(by, 0, 0, 0), power(k*n+eighths))
				}
				x, e := wave.Spectrum(samples)
				if eighths%2 == 1 && by > 0 {
					expect(t, "Spectrum with w", x, e, [8]api.Gauss{}, api.ErrForm)
					continue
				}
				p := times(number(by, 0, 0, 0), power(eighths))
				want := [8]api.Gauss{}
				want[k] = g(p.A, p.C)
				expect(t, "Spectrum without w", x, e, want, api.OK)
			}
			// the first sample alone: each subcarrier has the eighth part of it
			p := times(number(by, 0, 0, 0), power(eighths))
			x, e := wave.Spectrum([8]api.WaveNumber{p})
			if want, whole := eighth([8]api.WaveNumber{p, p, p, p, p, p, p, p}); whole {
				expect(t, "Spectrum of one sample", x, e, want, api.OK)
			} else {
				expect(t, "Spectrum of one sample", x, e, [8]api.Gauss{}, api.ErrForm)
			}
		}
	}
}

func TestTransformsAtTheEnds(t *testing.T) {
	const most = 1000000000
	entries := [8]api.Gauss{}
	for k := range entries {
		entries[k] = g(10000, -10000)
	}
	s, e := wave.Samples(entries)
	expect(t, "Samples", s, e, [8]api.WaveNumber{number(80000, 0, -80000, 0)}, api.OK)
	x, e := wave.Spectrum(s)
	expect(t, "Spectrum", x, e, entries, api.OK)
	flat := [8]api.WaveNumber{}
	for n := range flat {
		flat[n] = number(most, 0, -most, 0)
	}
	x, e = wave.Spectrum(flat) // whose transform is too large
	expect(t, "Spectrum of the greatest samples", x, e, [8]api.Gauss{g(most, -most)}, api.OK)
	y, e := wave.Transform(flat)
	expect(t, "Transform of the greatest samples", y, e, [8]api.WaveNumber{}, api.ErrLarge)
	y, e = wave.Transform([8]api.WaveNumber{number(most, most, -most, -most)})
	one := number(most, most, -most, -most)
	expect(t, "Transform of one sample", y, e, [8]api.WaveNumber{one, one, one, one, one, one, one, one}, api.OK)
	for _, part := range []api.WaveNumber{number(1, 0, 0, 0), number(0, 1, 0, 0), number(0, 0, -1, 0), number(0, 0, 0, -1)} {
		half := times(part, number(most/2, 0, 0, 0))
		y, e = wave.Transform([8]api.WaveNumber{half, half})
		expect(t, "Transform of two samples", y, e, transformOf([8]api.WaveNumber{half, half}), api.OK)
		y, e = wave.Transform([8]api.WaveNumber{half, plus(half, part)})
		expect(t, "Transform that is too large by one", y, e, [8]api.WaveNumber{}, api.ErrLarge)
		y, e = wave.Transform([8]api.WaveNumber{half, 4: times(plus(half, part), number(-1, 0, 0, 0))})
		expect(t, "Transform whose value 1 is too large", y, e, [8]api.WaveNumber{}, api.ErrLarge)
	}
}

func TestFourPoints(t *testing.T) {
	const most = 1000000000
	r := rand.New(rand.NewSource(6))
	right := 0
	for range 2000 {
		x := [4]api.Gauss(randomGauss(r, 4, []int{1, 2, 1000, most / 4, most}[r.Intn(5)]))
		y, e := wave.Four(x)
		expect(t, "Four", y, e, fours(x, 1), api.OK)
		if isSmall(asNumber(y[0]), asNumber(y[1]), asNumber(y[2]), asNumber(y[3])) {
			back, e := wave.FourBack(y)
			expect(t, "FourBack of Four", back, e, x, api.OK)
		}
		for k, v := range x[:r.Intn(5)] { // these add nothing that is not whole
			x[k] = g(v.Re/4*4, v.Im/4*4)
		}
		want, whole := fours(x, -1), true
		for k, v := range want {
			whole = whole && v.Re/4*4 == v.Re && v.Im/4*4 == v.Im
			want[k] = g(v.Re/4, v.Im/4)
		}
		back, e := wave.FourBack(x)
		if whole {
			right++
			expect(t, "FourBack", back, e, want, api.OK)
		} else {
			expect(t, "FourBack", back, e, [4]api.Gauss{}, api.ErrForm)
		}
	}
	if right < 300 || right > 1500 {
		t.Errorf("FourBack of any numbers was right %d times", right)
	}
	flat := [4]api.Gauss{g(most, -most), g(most, -most), g(most, -most), g(most, -most)}
	y, e := wave.Four(flat)
	expect(t, "Four of the greatest numbers", y, e, [4]api.Gauss{g(4*most, -4*most)}, api.OK)
	y, e = wave.FourBack(flat)
	expect(t, "FourBack of the greatest numbers", y, e, [4]api.Gauss{g(most, -most)}, api.OK)
	for n := 1; n < 9; n++ {
		for _, x := range []api.Gauss{g(n, 0), g(-n, 0), g(0, n), g(0, -n)} {
			y, e := wave.FourBack([4]api.Gauss{x})
			q := g(x.Re/4, x.Im/4)
			if n%4 == 0 {
				expect(t, "FourBack of one number", y, e, [4]api.Gauss{q, q, q, q}, api.OK)
			} else {
				expect(t, "FourBack of one number", y, e, [4]api.Gauss{}, api.ErrForm)
			}
		}
	}
}

// TestErrorOfFour is the last sentence of P4.9.
func TestErrorOfFour(t *testing.T) {
	r := rand.New(rand.NewSource(7))
	for range 500 {
		x, y := [4]api.Gauss(randomGauss(r, 4, 1250)), [4]api.Gauss(randomGauss(r, 4, 1250))
		before := must(wave.ErrorOf(x[:], y[:]))
		x, y = must(wave.Four(x)), must(wave.Four(y))
		behind, e := wave.ErrorOf(x[:], y[:])
		expect(t, "ErrorOf", behind, e, 4*before, api.OK)
	}
}
