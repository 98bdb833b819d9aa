package wave_test

import (
	"math/big"
	"math/rand"
	"testing"

	"downtilt/api"
	"downtilt/wave"
)

// TestEstimateExamples is the example 7 of the chapter.
func TestEstimateExamples(t *testing.T) {
	l, e := wave.EstimatesOf([]api.Gauss{g(0, 1)}, []api.Gauss{g(2, 3)})
	expect(t, "EstimatesOf", l, e, []api.Gauss{g(3, -2)}, api.OK)
	p, e := wave.Interpolated([]api.Gauss{g(0, 0), g(4, 8)}, 4)
	expect(t, "Interpolated", p, e, []api.Phasor{{Den: 1}, {Re: 1, Im: 2, Den: 1}, {Re: 2, Im: 4, Den: 1}, {Re: 3, Im: 6, Den: 1}, {Re: 4, Im: 8, Den: 1}}, api.OK)
	list := []api.Gauss{g(0, 0), g(1, 0), g(4, 0), g(9, 0)}
	n, e := wave.BendOf(list)
	expect(t, "BendOf", n, e, 2, api.OK)
	p, e = wave.Interpolated([]api.Gauss{list[0], list[2]}, 2)
	expect(t, "Interpolated of squares", p, e, []api.Phasor{{Den: 1}, {Re: 2, Den: 1}, {Re: 4, Den: 1}}, api.OK)
}

func TestEstimates(t *testing.T) {
	l, e := wave.EstimatesOf([]api.Gauss{g(1, 0), g(0, 1), g(-1, 0), g(0, -1)}, []api.Gauss{g(2, 3), g(2, 3), g(2, 3), g(2, 3)})
	expect(t, "EstimatesOf", l, e, []api.Gauss{g(2, 3), g(3, -2), g(-2, -3), g(-3, 2)}, api.OK)
	l, e = wave.EstimatesOf([]api.Gauss{g(0, -1)}, []api.Gauss{g(10000, -10000)})
	expect(t, "EstimatesOf the ends", l, e, []api.Gauss{g(10000, 10000)}, api.OK)
	l, e = wave.EstimatesOf(nil, nil)
	expect(t, "EstimatesOf nothing", l, e, []api.Gauss(nil), api.OK)
	r := rand.New(rand.NewSource(18))
	for count := range 41 { // what was received is the reference symbol times the channel
		known, channel := randomReferences(r, count), randomGauss(r, count, 10000)
		x := make([]api.Gauss, count)
		for n, k := range known {
			p := times(asNumber(k), asNumber(channel[n]))
			x[n] = g(p.A, p.C)
		}
		l, e := wave.EstimatesOf(known, x)
		expect(t, "EstimatesOf", l, e, channel, api.OK)
	}
}

func TestInterpolatedExamples(t *testing.T) {
	for _, x := range []struct {
		l    []api.Gauss
		step int
		want []api.Phasor
	}{
		{[]api.Gauss{g(3, -4)}, 20, []api.Phasor{{Re: 3, Im: -4, Den: 1}}},
		{[]api.Gauss{g(0, 0)}, 7, []api.Phasor{{Den: 1}}},
		{[]api.Gauss{g(5, 1), g(-6, 2)}, 1, []api.Phasor{{Re: 5, Im: 1, Den: 1}, {Re: -6, Im: 2, Den: 1}}},
		{[]api.Gauss{g(0, 0), g(-3, 0), g(3, 2)}, 2, []api.Phasor{{Den: 1}, {Re: -3, Den: 2}, {Re: -3, Den: 1}, {Im: 1, Den: 1}, {Re: 3, Im: 2, Den: 1}}},
		{[]api.Gauss{g(0, 0), g(2, -4)}, 6, []api.Phasor{{Den: 1}, {Re: 1, Im: -2, Den: 3}, {Re: 2, Im: -4, Den: 3}, {Re: 1, Im: -2, Den: 1}, {Re: 4, Im: -8, Den: 3}, {Re: 5, Im: -10, Den: 3}, {Re: 2, Im: -4, Den: 1}}},
		{[]api.Gauss{g(0, 0), g(2, 3)}, 4, []api.Phasor{{Den: 1}, {Re: 2, Im: 3, Den: 4}, {Re: 2, Im: 3, Den: 2}, {Re: 6, Im: 9, Den: 4}, {Re: 2, Im: 3, Den: 1}}},
		{[]api.Gauss{g(1, -1), g(-1, 1)}, 2, []api.Phasor{{Re: 1, Im: -1, Den: 1}, {Den: 1}, {Re: -1, Im: 1, Den: 1}}},
		{[]api.Gauss{g(0, 0), g(0, -5)}, 5, []api.Phasor{{Den: 1}, {Im: -1, Den: 1}, {Im: -2, Den: 1}, {Im: -3, Den: 1}, {Im: -4, Den: 1}, {Im: -5, Den: 1}}},
	} {
		p, e := wave.Interpolated(x.l, x.step)
		expect(t, "Interpolated", p, e, x.want, api.OK)
	}
}

// TestInterpolatedAsDefined compares with fractions.
func TestInterpolatedAsDefined(t *testing.T) {
	r := rand.New(rand.NewSource(19))
	line := func(a, b, k, step int) *big.Rat {
		x := big.NewRat(int64(b-a), int64(step))
		x.Mul(x, big.NewRat(int64(k), 1))
		return x.Add(x, big.NewRat(int64(a), 1))
	}
	for range 300 {
		count, step := 1+r.Intn(40), 1+r.Intn(20)
		l := randomGauss(r, count, []int{3, 20, 10000}[r.Intn(3)])
		p, e := wave.Interpolated(l, step)
		expect(t, "the number of values", len(p), e, (count-1)*step+1, api.OK)
		for n, v := range p {
			i := min(n/step, max(count-2, 0))
			next := l[min(i+1, count-1)]
			re, im := line(l[i].Re, next.Re, n-i*step, step), line(l[i].Im, next.Im, n-i*step, step)
			if v.Den < 1 || re.Cmp(big.NewRat(int64(v.Re), int64(v.Den))) != 0 || im.Cmp(big.NewRat(int64(v.Im), int64(v.Den))) != 0 {
				t.Errorf("the value %d of %v by %d is %v", n, l, step, v)
			}
			for d := 2; d <= v.Den; d++ {
				if v.Re%d == 0 && v.Im%d == 0 && v.Den%d == 0 {
					t.Errorf("%v is not in lowest terms", v)
				}
			}
		}
	}
}

func TestBend(t *testing.T) {
	for _, x := range []struct {
		l    []api.Gauss
		want int
	}{
		{nil, 0},
		{[]api.Gauss{g(10000, 10000)}, 0},
		{[]api.Gauss{g(10000, 10000), g(-10000, 0)}, 0},
		{[]api.Gauss{g(1, 5), g(2, 3), g(3, 1), g(4, -1)}, 0},
		{[]api.Gauss{g(0, 0), g(1, 0), g(0, 0)}, 2},
		{[]api.Gauss{g(0, 0), g(-1, 0), g(0, 0)}, 2},
		{[]api.Gauss{g(0, 0), g(0, 3), g(0, 0)}, 6},
		{[]api.Gauss{g(0, 0), g(0, -3), g(0, 0)}, 6},
		{[]api.Gauss{g(5, 0), g(0, 0), g(0, 0), g(0, 0)}, 5},
		{[]api.Gauss{g(0, 0), g(0, 0), g(0, 0), g(0, -5)}, 5},
		{[]api.Gauss{g(10000, 0), g(-10000, 0), g(10000, 0)}, 40000},
		{[]api.Gauss{g(0, -10000), g(0, 10000), g(0, -10000)}, 40000},
		{append(make([]api.Gauss, 799), g(0, 7)), 7},
		{append([]api.Gauss{g(-7, 0)}, make([]api.Gauss, 799)...), 7},
	} {
		n, e := wave.BendOf(x.l)
		expect(t, "BendOf", n, e, x.want, api.OK)
	}
	r := rand.New(rand.NewSource(20))
	for range 300 {
		l := randomGauss(r, r.Intn(801), []int{1, 50, 10000}[r.Intn(3)])
		want := 0
		for i := 1; i+1 < len(l); i++ {
			re, im := l[i+1].Re-2*l[i].Re+l[i-1].Re, l[i+1].Im-2*l[i].Im+l[i-1].Im
			want = max(want, re, -re, im, -im)
		}
		n, e := wave.BendOf(l)
		expect(t, "BendOf", n, e, want, api.OK)
	}
}

// TestBetweenReferences is P4.15.
func TestBetweenReferences(t *testing.T) {
	r := rand.New(rand.NewSource(21))
	sharp := 0
	for range 400 {
		step, count := 1+r.Intn(20), 1+r.Intn(40)
		channel := bentChannel(r, (count-1)*step+1, r.Intn(4))
		var estimates []api.Gauss
		for n := 0; n < len(channel); n += step {
			estimates = append(estimates, channel[n])
		}
		bend := must(wave.BendOf(channel))
		for n, v := range must(wave.Interpolated(estimates, step)) {
			k := n % step
			bound := v.Den * bend * k * (step - k) // twice the bound, times Den
			re, im := 2*(channel[n].Re*v.Den-v.Re), 2*(channel[n].Im*v.Den-v.Im)
			if away := max(re, -re, im, -im); away > bound {
				t.Errorf("at %d, with the step %d and the bend %d, %v is %v", n, step, bend, channel[n], v)
			} else if away == bound && bound > 0 {
				sharp++
			}
		}
	}
	if sharp == 0 {
		t.Error("no value is as far away as can be")
	}
}

// bentChannel has parts that go up and down by steps, each of which differs by at most that from the one before.
func bentChannel(r *rand.Rand, count, bend int) []api.Gauss {
	l := make([]api.Gauss, count)
	var at, by api.Gauss
	for n := range l {
		l[n] = at
		by = g(towards(by.Re, at.Re, part(r, bend)), towards(by.Im, at.Im, bend))
		at = g(at.Re+by.Re, at.Im+by.Im)
	}
	return l
}

// towards changes a step, so that what it leads away from 0 comes back.
func towards(by, at, change int) int {
	if at > 1000 || by > 100 {
		return by - max(change, -change)
	}
	if at < -1000 || by < -100 {
		return by + max(change, -change)
	}
	return by + change
}
