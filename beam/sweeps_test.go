package beam_test

import (
	"fmt"
	"math"
	"math/big"
	"math/rand"
	"testing"

	"downtilt/api"
	"downtilt/beam"
)

// powerOf multiplies powers of w by the channel, as numbers of four parts.
func powerOf(b api.BeamBeam, h []api.Gauss) api.BeamSquare {
	var sum number
	for i, phase := range b.Phases {
		if phase >= 0 {
			sum = plus(sum, times(power(phase), number{h[i].Re, 0, h[i].Im, 0}))
		}
	}
	return sizeSquare(sum)
}

// larger compares p with q times the root of two, by their squares: their signs tell if they differ.
func larger(a, b api.BeamSquare) int {
	p, q := big.NewInt(int64(a.P)), big.NewInt(int64(b.Q))
	p.Sub(p, big.NewInt(int64(b.P)))
	q.Sub(q, big.NewInt(int64(a.Q)))
	signed := func(x *big.Int, factor int64) *big.Int {
		s := new(big.Int).Mul(x, new(big.Int).Abs(x))
		return s.Mul(s, big.NewInt(factor))
	}
	return signed(p, 1).Cmp(signed(q, 2))
}

// sweep takes the first beam of greatest power out of those that are left, again and again.
func sweep(l []api.BeamBeam, h []api.Gauss) []int {
	taken := make([]bool, len(l))
	var numbers []int
	for range l {
		best := -1
		for i, b := range l {
			if !taken[i] && (best < 0 || larger(powerOf(b, h), powerOf(l[best], h)) > 0) {
				best = i
			}
		}
		taken[best] = true
		numbers = append(numbers, best)
	}
	return numbers
}

func TestPowerOf(t *testing.T) {
	r := rand.New(rand.NewSource(32))
	for i := range 4000 {
		b, h := randomBeam(r, 1+i%8), randomChannel(r, 1+i%8, []int{1, 5, 30}[i%3])
		x, e := beam.PowerOf(b, h)
		expect(t, fmt.Sprint("PowerOf ", b, h), x, e, powerOf(b, h), api.OK)
	}
	x, e := beam.PowerOf(phased(0, 0), []api.Gauss{g(1, 0), g(0, 1)})
	expect(t, "PowerOf 1 + i", x, e, square(2, 0), api.OK)
	x, e = beam.PowerOf(phased(1, 0), []api.Gauss{g(1, 0), g(1, 0)})
	expect(t, "PowerOf w + 1", x, e, square(2, 1), api.OK)
	x, e = beam.PowerOf(phased(-1, 3), []api.Gauss{g(30, 30), g(3, -4)})
	expect(t, "PowerOf one antenna", x, e, square(25, 0), api.OK)
	x, e = beam.PowerOf(phased(0, 4), []api.Gauss{g(0, 0), g(0, 0)})
	expect(t, "PowerOf a channel of 0", x, e, square(0, 0), api.OK)
	most := make([]api.Gauss, 8)
	for i := range most {
		most[i] = g(30, -30)
	}
	x, e = beam.PowerOf(phased(0, 0, 0, 0, 0, 0, 0, 0), most)
	expect(t, "PowerOf the greatest channel", x, e, square(240*240*2, 0), api.OK)
}

// TestPowerOfResponses takes the channel of a direction: the power is the gain there.
func TestPowerOfResponses(t *testing.T) {
	quarters := []api.Gauss{g(1, 0), g(0, 1), g(-1, 0), g(0, -1)}
	for _, b := range manyBeams() {
		for step := 0; step < 8; step += 2 {
			h := make([]api.Gauss, len(b.Phases))
			for i := range h {
				h[i] = quarters[i*step/2%4]
			}
			x, e := beam.PowerOf(b, h)
			expect(t, fmt.Sprint("PowerOf ", b, h), x, e, must(beam.GainOf(b, step)), api.OK)
		}
	}
}

func TestLarger(t *testing.T) {
	for _, x := range []struct {
		a, b api.BeamSquare
		want int
	}{
		{square(0, 0), square(0, 0), 0},
		{square(7, -3), square(7, -3), 0},
		{square(7, 0), square(0, 5), -1},
		{square(3, 0), square(0, 2), 1},
		{square(0, 5), square(7, 0), 1},
		{square(-7, 0), square(0, -5), 1},
		{square(-3, 0), square(0, -2), -1},
		{square(1, 0), square(0, 0), 1},
		{square(0, 1), square(0, 0), 1},
		{square(0, -1), square(0, 0), -1},
		{square(-1, 0), square(0, 0), -1},
		{square(-1, 1), square(0, 0), 1},
		{square(1, -1), square(0, 0), -1},
		{square(3, -2), square(0, 0), 1},
		{square(1000000000000, 0), square(-1000000000000, 0), 1},
		{square(1000000000000, -1000000000000), square(-1000000000000, 1000000000000), -1},
		{square(-1000000000000, 1000000000000), square(1000000000000, -1000000000000), 1},
		{square(1000000000000, 1000000000000), square(1000000000000, 1000000000000), 0},
		{square(1000000000000, 1000000000000), square(-1000000000000, -1000000000000), 1},
	} {
		n, e := beam.Larger(x.a, x.b)
		expect(t, fmt.Sprint("Larger ", x.a, x.b), n, e, x.want, api.OK)
	}
}

// TestLargerNearby compares numbers that differ by very little: p p is 2 q q and 1, or less 1.
func TestLargerNearby(t *testing.T) {
	p, q, sign := 1, 1, -1
	for p+2*q <= 2000000000000 {
		a, b := square(p-p/2, -(q/2)), square(-(p/2), q-q/2)
		n, e := beam.Larger(a, b)
		expect(t, fmt.Sprint("Larger ", a, b), n, e, sign, api.OK)
		n, e = beam.Larger(b, a)
		expect(t, fmt.Sprint("Larger ", b, a), n, e, -sign, api.OK)
		p, q, sign = p+2*q, p+q, -sign
	}
}

func TestLargerOfAny(t *testing.T) {
	r := rand.New(rand.NewSource(33))
	for i := range 20000 {
		most := []int{2, 100, 1000000, 1000000000000}[i%4]
		a, b := square(part(r, most), part(r, most)), square(part(r, most), part(r, most))
		if i%8 > 3 { // about as great as a
			b.P, b.Q = -a.P, a.Q+int(math.Round(float64(a.P)*math.Sqrt2))+part(r, 1)
			if b.Q > most || b.Q < -most {
				continue
			}
		}
		n, e := beam.Larger(a, b)
		expect(t, fmt.Sprint("Larger ", a, b), n, e, larger(a, b), api.OK)
	}
}

func TestSweep(t *testing.T) {
	r := rand.New(rand.NewSource(34))
	for i := range 2000 {
		count := 1 + i%8
		book, h := randomBook(r, 1+r.Intn(16), count), randomChannel(r, count, []int{0, 1, 5, 30}[i%4])
		want := sweep(book, h)
		l, e := beam.Sweep(book, h)
		expect(t, fmt.Sprint("Sweep ", book, h), l, e, want, api.OK)
		n, e := beam.BestOf(book, h)
		expect(t, fmt.Sprint("BestOf ", book, h), n, e, want[0], api.OK)
	}
}

// TestSweepEqual has beams with the same power, of which the lesser number comes first.
func TestSweepEqual(t *testing.T) {
	h := []api.Gauss{g(1, 0), g(1, 0)}
	book := []api.BeamBeam{phased(0, 4), phased(3, 3), phased(0, -1), phased(0, 0), phased(-1, 5), phased(2, 6), phased(1, 2)}
	l, e := beam.Sweep(book, h)
	expect(t, "Sweep", l, e, []int{1, 3, 6, 2, 4, 0, 5}, api.OK)
	n, e := beam.BestOf(book, h)
	expect(t, "BestOf", n, e, 1, api.OK)
	for count := 1; count <= 16; count++ {
		var equal []api.BeamBeam
		var want []int
		for i := range count {
			equal, want = append(equal, phased(i%8, i%8)), append(want, i)
		}
		l, e := beam.Sweep(equal, h)
		expect(t, "Sweep of beams alike", l, e, want, api.OK)
		n, e := beam.BestOf(equal, h)
		expect(t, "BestOf beams alike", n, e, 0, api.OK)
	}
}
