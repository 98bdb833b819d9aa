package wave_test

import (
	"math"
	"math/big"
	"math/cmplx"
	"math/rand"
	"testing"

	"downtilt/api"
	"downtilt/wave"
)

// power is w to a power, out of a table written by hand.
func power(n int) api.WaveNumber {
	return [8]api.WaveNumber{
		number(1, 0, 0, 0), number(0, 1, 0, 0), number(0, 0, 1, 0), number(0, 0, 0, 1),
		number(-1, 0, 0, 0), number(0, -1, 0, 0), number(0, 0, -1, 0), number(0, 0, 0, -1),
	}[(n%8+8)%8]
}

func parts(x api.WaveNumber) [4]int {
	return [4]int{x.A, x.B, x.C, x.D}
}

// bigProduct has the parts of a product, of any size.
func bigProduct(a, b api.WaveNumber) [4]*big.Int {
	l := [4]*big.Int{new(big.Int), new(big.Int), new(big.Int), new(big.Int)}
	for i, x := range parts(a) {
		for j, y := range parts(b) {
			n := new(big.Int).Mul(big.NewInt(int64(x)), big.NewInt(int64(y)))
			if i+j >= 4 {
				n.Neg(n)
			}
			l[(i+j)%4].Add(l[(i+j)%4], n)
		}
	}
	return l
}

// times is a product whose parts fit.
func times(a, b api.WaveNumber) api.WaveNumber {
	l := bigProduct(a, b)
	return number(int(l[0].Int64()), int(l[1].Int64()), int(l[2].Int64()), int(l[3].Int64()))
}

func plus(a, b api.WaveNumber) api.WaveNumber {
	return number(a.A+b.A, a.B+b.B, a.C+b.C, a.D+b.D)
}

// asNumber is a whole complex number as a number.
func asNumber(x api.Gauss) api.WaveNumber {
	return number(x.Re, 0, x.Im, 0)
}

// isSmall tells whether no part is greater in size than 10^9.
func isSmall(l ...api.WaveNumber) bool {
	for _, x := range l {
		for _, p := range parts(x) {
			if p > 1000000000 || p < -1000000000 {
				return false
			}
		}
	}
	return true
}

// about is a number as a complex one, not exactly.
func about(x api.WaveNumber) complex128 {
	w := cmplx.Exp(1i * math.Pi / 4)
	return complex(float64(x.A), 0) + complex(float64(x.B), 0)*w + complex(float64(x.C), 0)*1i + complex(float64(x.D), 0)*1i*w
}

// expectNear compares complex numbers that are not exact.
func expectNear(t *testing.T, what string, got, want complex128) {
	t.Helper()
	if cmplx.Abs(got-want) > 1e-9*(1+cmplx.Abs(want)) {
		t.Errorf("%s: %v, want %v", what, got, want)
	}
}

// TestNumberExamples is the example 1 of the chapter.
func TestNumberExamples(t *testing.T) {
	x, e := wave.Turned(number(1, 0, 0, 0), 1)
	expect(t, "w times 1", x, e, number(0, 1, 0, 0), api.OK)
	x, e = wave.Turned(number(0, 0, 0, 1), 1)
	expect(t, "w times i w", x, e, number(-1, 0, 0, 0), api.OK)
	x, e = wave.Product(number(0, 1, 0, 0), number(0, 1, 0, 0))
	expect(t, "w times w", x, e, number(0, 0, 1, 0), api.OK)
	s, e := wave.SquareOf(number(1, 1, 0, 0))
	expect(t, "the square of 1 + w", s, e, api.WaveSquare{P: 2, Q: 1}, api.OK)
	s, e = wave.SquareOf(number(1, 0, 0, 1))
	expect(t, "the square of 1 + i w", s, e, api.WaveSquare{P: 2, Q: -1}, api.OK)
	s, e = wave.SquareOf(number(1, 2, 3, 4))
	expect(t, "a square", s, e, api.WaveSquare{P: 30, Q: 2 + 6 + 12 - 4}, api.OK)
}

func TestTurned(t *testing.T) {
	const most = 1000000000
	x := number(1, 2, 3, 4)
	for eighths, want := range []api.WaveNumber{
		x, number(-4, 1, 2, 3), number(-3, -4, 1, 2), number(-2, -3, -4, 1),
		number(-1, -2, -3, -4), number(4, -1, -2, -3), number(3, 4, -1, -2), number(2, 3, 4, -1),
	} {
		y, e := wave.Turned(x, eighths)
		expect(t, "Turned", y, e, want, api.OK)
		y, e = wave.Turned(number(most, -most, most, -most), eighths)
		expect(t, "Turned at the ends", y, e, times(number(most, -most, most, -most), power(eighths)), api.OK)
	}
}

// TestNumbersAsDefined compares exactly with numbers of any size, and nearly with complex ones.
func TestNumbersAsDefined(t *testing.T) {
	r := rand.New(rand.NewSource(1))
	right, large := 0, 0
	for range 5000 {
		most := []int{2, 100, 15000, 20000, 1000000000}[r.Intn(5)]
		a, b := randomNumber(r, most), randomNumber(r, []int{most, 1 + 500000000/most}[r.Intn(2)])
		y, e := wave.Product(a, b)
		if want := times(a, b); isSmall(want) {
			right++
			expect(t, "Product", y, e, want, api.OK)
			expectNear(t, "Product", about(y), about(a)*about(b))
		} else {
			large++
			expect(t, "Product", y, e, api.WaveNumber{}, api.ErrLarge)
		}
		eighths := r.Intn(8)
		y, e = wave.Turned(a, eighths)
		expect(t, "Turned", y, e, times(a, power(eighths)), api.OK)
		expectNear(t, "Turned", about(y), about(a)*cmplx.Exp(complex(0, math.Pi/4*float64(eighths))))
		c := randomNumber(r, 100)
		s, e := wave.SquareOf(c)
		expectNear(t, "SquareOf", complex(float64(s.P)+float64(s.Q)*math.Sqrt2, 0), about(c)*cmplx.Conj(about(c)))
		conjugate := number(c.A, -c.D, -c.C, -c.B)
		whole := times(c, conjugate) // P + Q r, r being w - i w
		expect(t, "SquareOf", s, e, api.WaveSquare{P: whole.A, Q: whole.B}, api.OK)
	}
	if right < 500 || large < 500 {
		t.Errorf("%d products were right, %d too large", right, large)
	}
}

// TestNumbersAtTheEnds is of the greatest arguments and results, and of those that are too large by one.
func TestNumbersAtTheEnds(t *testing.T) {
	const most, root = 1000000000, 1000000
	for _, x := range []struct {
		a, b, want api.WaveNumber
		e          api.Errno
	}{
		{number(most, 0, 0, 0), number(1, 0, 0, 0), number(most, 0, 0, 0), api.OK},
		{number(most, 0, 0, 0), number(0, 0, 0, -1), number(0, 0, 0, -most), api.OK},
		{number(most, -most, most, -most), number(0, 1, 0, 0), number(most, most, -most, most), api.OK},
		{number(most, 0, 1, 0), number(1, 0, -1, 0), number(0, 0, 0, 0), api.ErrLarge},
		{number(most/2, most/2, 0, 0), number(1, 1, 0, 0), number(most/2, most, most/2, 0), api.OK},
		{number(most/2+1, most/2, 0, 0), number(1, 1, 0, 0), number(0, 0, 0, 0), api.ErrLarge},
		{number(0, most/2+1, most/2, 0), number(1, 1, 0, 0), number(0, 0, 0, 0), api.ErrLarge},
		{number(0, 0, most/2+1, most/2), number(-1, -1, 0, 0), number(0, 0, 0, 0), api.ErrLarge},
		{number(0, 0, 0, most/2+1), number(2, 0, 0, 0), number(0, 0, 0, 0), api.ErrLarge},
		{number(0, 0, 0, most/2+1), number(0, 2, 0, 0), number(0, 0, 0, 0), api.ErrLarge},
		{number(most, most, most, most), number(most, -most, -most, -most), number(0, 0, 0, 0), api.ErrLarge},
		{number(-most, most, most, most), number(-most, most, most, most), number(0, 0, 0, 0), api.ErrLarge},
		{number(1<<16, 0, 1<<16, 0), number(1<<16, 0, -1<<16, 0), number(0, 0, 0, 0), api.ErrLarge},
	} {
		y, e := wave.Product(x.a, x.b)
		expect(t, "Product", y, e, x.want, x.e)
		y, e = wave.Product(x.b, x.a)
		expect(t, "Product, the other way", y, e, x.want, x.e)
	}
	s, e := wave.SquareOf(number(root, root, root, -root))
	expect(t, "the greatest square", s, e, api.WaveSquare{P: 4 * root * root, Q: 2 * root * root}, api.OK)
	s, e = wave.SquareOf(number(-root, root, -root, root))
	expect(t, "a square", s, e, api.WaveSquare{P: 4 * root * root, Q: -2 * root * root}, api.OK)
	s, e = wave.SquareOf(number(0, 0, 0, 0))
	expect(t, "the square of 0", s, e, api.WaveSquare{}, api.OK)
}

// order compares squares by floats that are long enough: unless they are equal they differ by more than 10^-15.
func order(a, b api.WaveSquare) int {
	float := func(n int) *big.Float { return new(big.Float).SetPrec(300).SetInt64(int64(n)) }
	q := float(a.Q - b.Q)
	q.Mul(q, new(big.Float).SetPrec(300).Sqrt(float(2)))
	return q.Add(q, float(a.P-b.P)).Sign()
}

func TestComparedExamples(t *testing.T) {
	for _, x := range []struct {
		a, b api.WaveSquare
		want int
	}{
		{api.WaveSquare{}, api.WaveSquare{}, 0},
		{api.WaveSquare{P: 5, Q: -7}, api.WaveSquare{P: 5, Q: -7}, 0},
		{api.WaveSquare{P: 1}, api.WaveSquare{}, 1},
		{api.WaveSquare{}, api.WaveSquare{P: 1}, -1},
		{api.WaveSquare{Q: 1}, api.WaveSquare{}, 1},
		{api.WaveSquare{}, api.WaveSquare{Q: 1}, -1},
		{api.WaveSquare{P: 3}, api.WaveSquare{Q: 2}, 1},
		{api.WaveSquare{P: 7}, api.WaveSquare{Q: 5}, -1},
		{api.WaveSquare{P: -3}, api.WaveSquare{Q: -2}, -1},
		{api.WaveSquare{P: -7}, api.WaveSquare{Q: -5}, 1},
		{api.WaveSquare{P: 1, Q: 1}, api.WaveSquare{P: 4, Q: -1}, -1},
		{api.WaveSquare{P: 2, Q: 1}, api.WaveSquare{P: 4, Q: -1}, 1},
	} {
		n, e := wave.Compared(x.a, x.b)
		expect(t, "Compared", n, e, x.want, api.OK)
	}
}

// TestComparedAsDefined goes to the ends, and to where p is as near to q r as can be.
func TestComparedAsDefined(t *testing.T) {
	const most = 10000000000000
	r := rand.New(rand.NewSource(2))
	ends := []int{most, -most, most - 1, 1 - most, 0, 1, -1}
	for range 3000 {
		size := []int{3, 100, most}[r.Intn(3)]
		a := api.WaveSquare{P: part(r, size), Q: part(r, size)}
		b := api.WaveSquare{P: part(r, size), Q: part(r, size)}
		if r.Intn(4) == 0 {
			a.P, b.Q = ends[r.Intn(7)], ends[r.Intn(7)]
		}
		if r.Intn(4) == 0 {
			b.P, a.Q = ends[r.Intn(7)], ends[r.Intn(7)]
		}
		n, e := wave.Compared(a, b)
		expect(t, "Compared", n, e, order(a, b), api.OK)
	}
	for p, q := 1, 1; p+2*q <= 2*most; p, q = p+2*q, p+q {
		for by := -1; by <= 1; by++ {
			for _, sign := range []int{1, -1} {
				p, q := sign*(p+by), sign*q
				a, b := api.WaveSquare{P: p / 2, Q: -(q - q/2)}, api.WaveSquare{P: -(p - p/2), Q: q / 2}
				n, e := wave.Compared(a, b)
				expect(t, "Compared near", n, e, order(a, b), api.OK)
				n, e = wave.Compared(b, a)
				expect(t, "Compared near, the other way", n, e, order(b, a), api.OK)
			}
		}
	}
}
