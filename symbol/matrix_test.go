package symbol_test

import (
	"math/rand"
	"slices"
	"testing"

	"downtilt/api"
	"downtilt/symbol"
)

// times is a product of whole numbers.
func times(a, b api.Gauss) api.Gauss {
	return g(a.Re*b.Re-a.Im*b.Im, a.Re*b.Im+a.Im*b.Re)
}

func plus(a, b api.Gauss) api.Gauss {
	return g(a.Re+b.Re, a.Im+b.Im)
}

func minus(a, b api.Gauss) api.Gauss {
	return g(a.Re-b.Re, a.Im-b.Im)
}

// timesRows is the product of two matrices, or of a matrix and layers, in whole numbers.
func timesRows(a, b [][]api.Gauss) [][]api.Gauss {
	var l [][]api.Gauss
	for _, row := range a {
		sums := make([]api.Gauss, len(b[0]))
		for k, entry := range row {
			for i, x := range b[k] {
				sums[i] = plus(sums[i], times(entry, x))
			}
		}
		l = append(l, sums)
	}
	return l
}

// scaled is each symbol of layers times a number.
func scaled(n int, layers [][]api.Gauss) [][]api.Gauss {
	var l [][]api.Gauss
	for _, layer := range layers {
		var row []api.Gauss
		for _, x := range layer {
			row = append(row, times(g(n, 0), x))
		}
		l = append(l, row)
	}
	return l
}

// determinantOf is for two rows.
func determinantOf(m [][]api.Gauss) api.Gauss {
	return minus(times(m[0][0], m[1][1]), times(m[0][1], m[1][0]))
}

// areWithin tells whether no part is greater in size than most.
func areWithin(rows [][]api.Gauss, most int) bool {
	return !slices.ContainsFunc(slices.Concat(rows...), func(x api.Gauss) bool {
		return x.Re > most || x.Re < -most || x.Im > most || x.Im < -most
	})
}

func TestMatrixExample(t *testing.T) {
	m := [][]api.Gauss{{g(1, 0), g(0, 1)}, {g(0, 0), g(2, 0)}}
	layers := [][]api.Gauss{{g(3, 0)}, {g(1, 1)}}
	expect(t, "CheckMatrix", 0, symbol.CheckMatrix(m), 0, api.OK)
	d, e := symbol.Determinant(m)
	expect(t, "Determinant", d, e, g(2, 0), api.OK)
	ports, e := symbol.Applied(m, layers)
	expect(t, "Applied", ports, e, [][]api.Gauss{{g(2, 1)}, {g(2, 2)}}, api.OK)
	back, gain, e := symbol.Equalized(m, ports)
	expect(t, "Equalized", back, e, [][]api.Gauss{{g(12, 0)}, {g(4, 4)}}, api.OK)
	expect(t, "the gain", gain, e, 4, api.OK)
	twice, e := symbol.Product(m, m)
	expect(t, "Product", twice, e, [][]api.Gauss{{g(1, 0), g(0, 3)}, {g(0, 0), g(4, 0)}}, api.OK)
}

func TestMatricesThatAreNotSquare(t *testing.T) {
	three := [][]api.Gauss{{g(1, 0), g(0, 1), g(2, 0)}}
	column := [][]api.Gauss{{g(1, 1)}, {g(0, -1)}, {g(3, 0)}, {g(-1, 0)}}
	ports, e := symbol.Applied(three, [][]api.Gauss{{g(1, 0), g(0, 1)}, {g(1, 0), g(2, 0)}, {g(5, 0), g(1, 1)}})
	expect(t, "Applied to three layers", ports, e, [][]api.Gauss{{g(11, 1), g(2, 5)}}, api.OK)
	ports, e = symbol.Applied(column, [][]api.Gauss{{g(2, 1)}})
	expect(t, "Applied to four ports", ports, e, [][]api.Gauss{{g(1, 3)}, {g(1, -2)}, {g(6, 3)}, {g(-2, -1)}}, api.OK)
	both, e := symbol.Product(column, three)
	expect(t, "Product", both, e, timesRows(column, three), api.OK)
	expect(t, "the last entry", both[3][2], e, g(-2, 0), api.OK)
}

// TestMatricesAsDefined compares with whole numbers, up to the ends of what a result may be.
func TestMatricesAsDefined(t *testing.T) {
	r := rand.New(rand.NewSource(7))
	right := map[string]int{}
	for range 3000 {
		rows, inner, columns := 1+r.Intn(4), 1+r.Intn(4), 1+r.Intn(4)
		most := []int{1, 3, 15, 30, 1000}[r.Intn(5)]
		a, b := randomRows(r, rows, inner, most), randomRows(r, inner, columns, most)
		layers := randomRows(r, inner, 1+r.Intn(6), []int{7, 10000, 100000000}[r.Intn(3)])
		expect(t, "CheckMatrix", 0, symbol.CheckMatrix(a), 0, api.OK)
		product, e := symbol.Product(a, b)
		expectLimited(t, "Product", right, product, e, timesRows(a, b), 1000)
		ports, e := symbol.Applied(a, layers)
		expectLimited(t, "Applied", right, ports, e, timesRows(a, layers), 100000000)
		m := randomRows(r, 2, 2, most)
		d, e := symbol.Determinant(m)
		expect(t, "Determinant", d, e, determinantOf(m), api.OK)
		d, e = symbol.Determinant(m[:1:1])
		expect(t, "Determinant of a row", d, e, g(0, 0), api.ErrClash)
		d, e = symbol.Determinant([][]api.Gauss{m[0][:1]})
		expect(t, "Determinant of an entry", d, e, m[0][0], api.OK)
	}
	for name, n := range right {
		if n < 200 || n > 2800 {
			t.Errorf("%s was not too large %d times", name, n)
		}
	}
}

// expectLimited compares a result that may be too large, and counts how often it is not.
func expectLimited(t *testing.T, what string, right map[string]int, got [][]api.Gauss, e api.Errno, want [][]api.Gauss, most int) {
	t.Helper()
	if !areWithin(want, most) {
		expect(t, what, got, e, [][]api.Gauss(nil), api.ErrLarge)
		return
	}
	right[what]++
	expect(t, what, got, e, want, api.OK)
}

// TestMatricesAtTheEnds is of the greatest results, and of those that are too large by one.
func TestMatricesAtTheEnds(t *testing.T) {
	type rows = [][]api.Gauss
	one := rows{{g(1, 0), g(1, 0)}}
	for _, x := range []struct {
		a, b api.Gauss
		e    api.Errno
	}{
		{g(999, 0), g(1, 0), api.OK}, {g(999, 0), g(2, 0), api.ErrLarge},
		{g(-999, 0), g(-1, 0), api.OK}, {g(-1000, 0), g(-1, 0), api.ErrLarge},
		{g(0, 1000), g(0, 0), api.OK}, {g(0, 1000), g(0, 1), api.ErrLarge},
		{g(0, -1), g(0, -999), api.OK}, {g(0, -2), g(0, -999), api.ErrLarge},
	} {
		var want rows
		if x.e == api.OK {
			want = rows{{plus(x.a, x.b)}}
		}
		l, e := symbol.Product(one, rows{{x.a}, {x.b}})
		expect(t, "Product", l, e, want, x.e)
		l, e = symbol.Applied(one, rows{{times(x.a, g(100000, 0))}, {times(x.b, g(100000, 0))}})
		expect(t, "Applied", l, e, scaled(100000, want), x.e)
	}
	half := rows{{g(100000000, 0)}, {g(1, 0)}}
	l, e := symbol.Applied(one, half)
	expect(t, "Applied, too large by one", l, e, rows(nil), api.ErrLarge)
	// what is added up may be beyond the limit on the way
	l, e = symbol.Applied(rows{{g(1000, 0), g(-1000, 0), g(0, 1)}}, rows{{g(100000000, 0)}, {g(100000000, 0)}, {g(7, 0)}})
	expect(t, "Applied, large on the way", l, e, rows{{g(0, 7)}}, api.OK)
	l, e = symbol.Applied(rows{slices.Repeat([]api.Gauss{g(1000, 1000)}, 4)}, slices.Repeat(rows{{g(100000000, -100000000)}}, 4))
	expect(t, "Applied, the greatest", l, e, rows(nil), api.ErrLarge)
	d, e := symbol.Determinant(rows{{g(1000, 1000), g(-1000, 1000)}, {g(1000, 1000), g(1000, -1000)}})
	expect(t, "Determinant, the greatest", d, e, g(4000000, 0), api.OK)
}

// TestTakenOff is P3.12.
func TestTakenOff(t *testing.T) {
	r := rand.New(rand.NewSource(8))
	right := 0
	for range 3000 {
		size := 1 + r.Intn(2)
		most := []int{1, 5, 30}[r.Intn(3)]
		a, b := randomRows(r, size, size, most), randomRows(r, size, size, 4)
		layers := randomRows(r, size, 1+r.Intn(5), 40)
		d := must(symbol.Determinant(a))
		back, gain, e := symbol.Equalized(a, must(symbol.Applied(a, layers)))
		want := scaled(d.Re*d.Re+d.Im*d.Im, layers)
		switch {
		case d == g(0, 0):
			expect(t, "Equalized", back, e, [][]api.Gauss(nil), api.ErrSingular)
		case d.Re*d.Re+d.Im*d.Im > 10000000 || !areWithin(want, 100000000):
			expect(t, "Equalized", back, e, [][]api.Gauss(nil), api.ErrLarge)
		default:
			right++
			expect(t, "Equalized", back, e, want, api.OK)
			expect(t, "the gain", gain, e, d.Re*d.Re+d.Im*d.Im, api.OK)
		}
		both := must(symbol.Product(a, b))
		expect(t, "Determinant of a product", must(symbol.Determinant(both)), api.OK, times(d, must(symbol.Determinant(b))), api.OK)
		expect(t, "Applied, a product", must(symbol.Applied(both, layers)), api.OK, must(symbol.Applied(a, must(symbol.Applied(b, layers)))), api.OK)
	}
	if right < 1000 {
		t.Errorf("equalized %d times only", right)
	}
}

// TestEqualizedAsDefined is of what was not sent by the matrix.
func TestEqualizedAsDefined(t *testing.T) {
	r := rand.New(rand.NewSource(9))
	right := 0
	for range 2000 {
		m := randomRows(r, 2, 2, 6)
		received := randomRows(r, 2, 3, []int{100, 10000, 1000000}[r.Intn(3)])
		d := determinantOf(m)
		if d == g(0, 0) {
			continue
		}
		adjugate := [][]api.Gauss{{m[1][1], minus(g(0, 0), m[0][1])}, {minus(g(0, 0), m[1][0]), m[0][0]}}
		var want [][]api.Gauss
		for _, row := range timesRows(adjugate, received) {
			want = append(want, []api.Gauss{times(g(d.Re, -d.Im), row[0]), times(g(d.Re, -d.Im), row[1]), times(g(d.Re, -d.Im), row[2])})
		}
		l, gain, e := symbol.Equalized(m, received)
		if !areWithin(want, 100000000) {
			expect(t, "Equalized", l, e, [][]api.Gauss(nil), api.ErrLarge)
			continue
		}
		right++
		expect(t, "Equalized", l, e, want, api.OK)
		expect(t, "the gain", gain, e, d.Re*d.Re+d.Im*d.Im, api.OK)
	}
	if right < 1000 || right > 1900 {
		t.Errorf("equalized %d times", right)
	}
}

func TestEqualizedAtTheEnds(t *testing.T) {
	type rows = [][]api.Gauss
	zero := g(0, 0)
	for _, x := range []struct {
		m, received, want rows
		gain              int
		e                 api.Errno
	}{
		{rows{{g(1, 0)}}, rows{{g(100000000, -100000000)}}, rows{{g(100000000, -100000000)}}, 1, api.OK},
		{rows{{g(0, 2)}}, rows{{g(0, 50000000)}}, rows{{g(100000000, 0)}}, 4, api.OK},
		{rows{{g(0, 2)}}, rows{{g(0, 50000001)}}, nil, 0, api.ErrLarge},
		{rows{{g(0, 2)}}, rows{{g(50000001, 0)}}, nil, 0, api.ErrLarge},
		// the gain is 3000^2 + 1000^2, just what it may be; then 1 more in size of a part
		{rows{{g(1000, 0), zero}, {zero, g(3, 1)}}, rows{{g(1, 0)}, {zero}}, rows{{g(10000, 0)}, {zero}}, 10000000, api.OK},
		{rows{{g(1000, 0), g(1, 0)}, {g(0, -1), g(3, 1)}}, rows{{g(1, 0)}, {zero}}, nil, 0, api.ErrLarge},
		// much is taken away from much, and little is left
		{rows{{g(1000, 0), g(999, 0)}, {g(999, 0), g(998, 0)}}, rows{{g(99950000, 1)}, {g(99850000, 1)}}, rows{{g(50000, 1)}, {g(50000, -1)}}, 1, api.OK},
		{rows{{g(1000, 1000), g(999, 999)}, {g(999, 1000), g(998, 999)}}, rows{{g(100000000, 100000000)}, {g(100000000, 100000000)}}, nil, 0, api.ErrLarge},
	} {
		l, gain, e := symbol.Equalized(x.m, x.received)
		expect(t, "Equalized", l, e, x.want, x.e)
		expect(t, "the gain", gain, e, x.gain, x.e)
	}
}
