package wave_test

import (
	"math"
	"math/rand"
	"slices"
	"testing"

	"downtilt/api"
	"downtilt/wave"
)

// throughOf is what paths make of samples as it is defined.
func throughOf(l []api.WavePath, x []api.WaveNumber) []api.WaveNumber {
	y := make([]api.WaveNumber, len(x))
	for n := range y {
		for _, p := range l {
			if n-p.Delay >= 0 {
				y[n] = plus(y[n], times(asNumber(p.Gain), x[n-p.Delay]))
			}
		}
	}
	return y
}

// responseOf is the response of paths as it is defined.
func responseOf(l []api.WavePath) [8]api.WaveNumber {
	var y [8]api.WaveNumber
	for k := range y {
		for _, p := range l {
			y[k] = plus(y[k], times(asNumber(p.Gain), power(-k*p.Delay)))
		}
	}
	return y
}

// TestPathExample is the example 4 of the chapter.
func TestPathExample(t *testing.T) {
	paths := []api.WavePath{path(0, 1, 0), path(1, 2, 0)}
	y, e := wave.ResponseOf(paths)
	want := [8]api.WaveNumber{number(3, 0, 0, 0), number(1, 0, 0, -2), number(1, 0, -2, 0), number(1, -2, 0, 0), number(-1, 0, 0, 0), number(1, 0, 0, 2), number(1, 0, 2, 0), number(1, 2, 0, 0)}
	expect(t, "ResponseOf", y, e, want, api.OK)
	stream := must(wave.Stream([][8]api.Gauss{{2: g(1, 0)}}, 1))
	heard, e := wave.Through(paths, stream)
	expect(t, "Through", heard[:3], e, []api.WaveNumber{power(6), plus(power(0), times(number(2, 0, 0, 0), power(6))), plus(power(2), number(2, 0, 0, 0))}, api.OK)
	transform, e := wave.Transform(must(wave.SymbolOf(heard, 1, 0)))
	expect(t, "the transform", transform, e, [8]api.WaveNumber{2: number(8, 0, -16, 0)}, api.OK)
}

func TestThroughAsDefined(t *testing.T) {
	r := rand.New(rand.NewSource(10))
	right, large := 0, 0
	for range 1000 {
		paths := randomPaths(r, 7, 100)
		x := randomNumbers(r, r.Intn(121), []int{1, 1000000, 3000000, 1000000000}[r.Intn(4)])
		n, e := wave.CheckPaths(paths)
		expect(t, "CheckPaths", n, e, 0, api.OK)
		y, e := wave.Through(paths, x)
		if want := throughOf(paths, x); isSmall(want...) {
			right++
			expect(t, "Through", y, e, want, api.OK)
		} else {
			large++
			expect(t, "Through", y, e, []api.WaveNumber(nil), api.ErrLarge)
		}
		response, e := wave.ResponseOf(paths)
		expect(t, "ResponseOf", response, e, responseOf(paths), api.OK)
	}
	if right < 200 || large < 200 {
		t.Errorf("Through was right %d times, too large %d times", right, large)
	}
}

// TestChannelIsAProduct is P4.10.
func TestChannelIsAProduct(t *testing.T) {
	r := rand.New(rand.NewSource(11))
	for guard := range 8 {
		for range 60 {
			symbols := randomSymbols(r, 1+r.Intn(6), 10000)
			paths := randomPaths(r, guard, 100)
			heard := must(wave.Through(paths, must(wave.Stream(symbols, guard))))
			response := must(wave.ResponseOf(paths))
			for i, x := range symbols {
				var want [8]api.WaveNumber
				for k := range want {
					want[k] = times(response[k], asNumber(g(8*x[k].Re, 8*x[k].Im)))
				}
				transform, e := wave.Transform(must(wave.SymbolOf(heard, guard, i)))
				expect(t, "Transform", transform, e, want, api.OK)
			}
		}
	}
}

// TestLatePaths is what a path does that is later than the guard interval is long: it brings the symbol before.
func TestLatePaths(t *testing.T) {
	symbols := [][8]api.Gauss{{0: g(1, 0)}, {1: g(1, 0)}}
	heard, e := wave.Through([]api.WavePath{path(2, 1, 0)}, must(wave.Stream(symbols, 0)))
	one := number(1, 0, 0, 0)
	expect(t, "Through", heard[:8], e, []api.WaveNumber{{}, {}, one, one, one, one, one, one}, api.OK)
	expect(t, "Through", heard[8:], e, []api.WaveNumber{one, one, power(0), power(1), power(2), power(3), power(4), power(5)}, api.OK)
}

func TestThroughAtTheEnds(t *testing.T) {
	const most = 1000000000
	x := []api.WaveNumber{number(most, -most, most, -most)}
	y, e := wave.Through([]api.WavePath{path(0, 1, 0)}, x)
	expect(t, "Through", y, e, x, api.OK)
	y, e = wave.Through([]api.WavePath{path(0, 0, 1)}, x)
	expect(t, "Through a path that turns", y, e, []api.WaveNumber{number(-most, most, most, -most)}, api.OK)
	y, e = wave.Through([]api.WavePath{path(0, 100, 0)}, []api.WaveNumber{number(most/100, 0, 0, -most/100)})
	expect(t, "Through the greatest gain", y, e, []api.WaveNumber{number(most, 0, 0, -most)}, api.OK)
	y, e = wave.Through([]api.WavePath{path(1, 1, 0)}, x)
	expect(t, "Through a late path", y, e, []api.WaveNumber{{}}, api.OK)
	y, e = wave.Through([]api.WavePath{path(7, -100, 100)}, append(x, x[0], x[0], x[0], x[0], x[0], x[0]))
	expect(t, "Through the latest path", y, e, make([]api.WaveNumber, 7), api.OK)
	y, e = wave.Through([]api.WavePath{path(0, 1, 0)}, nil)
	expect(t, "Through, of nothing", y, e, []api.WaveNumber(nil), api.OK)
	for _, last := range []api.WaveNumber{number(most, 0, 0, 0), number(0, -most, 0, 0), number(0, 0, most, 0), number(0, 0, 0, -most)} {
		l := append(make([]api.WaveNumber, 118), last, api.WaveNumber{})
		y, e = wave.Through([]api.WavePath{path(0, 1, 0), path(1, 1, 0)}, l)
		expect(t, "Through, as great as can be", y[118:], e, []api.WaveNumber{last, last}, api.OK)
		l[119] = number(last.A/most, last.B/most, last.C/most, last.D/most)
		y, e = wave.Through([]api.WavePath{path(0, 1, 0), path(1, 1, 0)}, l)
		expect(t, "Through, too large by one", y, e, []api.WaveNumber(nil), api.ErrLarge)
	}
}

func TestCheckPaths(t *testing.T) {
	type paths = []api.WavePath
	for _, x := range []struct {
		l paths
		n int
		e api.Errno
	}{
		{nil, 0, api.ErrShape},
		{paths{}, 0, api.ErrShape},
		{paths{path(0, 0, 0)}, 0, api.OK},
		{paths{path(7, 100, -100)}, 0, api.OK},
		{paths{path(0, 1, 0), path(1, 1, 0), path(2, 1, 0), path(3, 1, 0), path(4, 1, 0), path(7, -100, 100)}, 0, api.OK},
		{make(paths, 7), 0, api.ErrLarge},
		{slices.Repeat(paths{path(8, 101, 0)}, 7), 0, api.ErrLarge},
		{make(paths, 6), 1, api.ErrOrder},
		{paths{path(-1, 0, 0)}, 0, api.ErrRange},
		{paths{path(8, 0, 0)}, 0, api.ErrRange},
		{paths{path(math.MinInt, 0, 0)}, 0, api.ErrRange},
		{paths{path(math.MaxInt, 0, 0)}, 0, api.ErrRange},
		{paths{path(0, 101, 0)}, 0, api.ErrRange},
		{paths{path(0, -101, 0)}, 0, api.ErrRange},
		{paths{path(0, 0, 101)}, 0, api.ErrRange},
		{paths{path(0, 0, -101)}, 0, api.ErrRange},
		{paths{path(0, math.MinInt, 0)}, 0, api.ErrRange},
		{paths{path(0, 0, math.MinInt)}, 0, api.ErrRange},
		{paths{path(0, 1, 0), path(3, 1, 0), path(8, 1, 0)}, 2, api.ErrRange},
		{paths{path(0, 1, 0), path(3, 1, 0), path(3, 1, 0)}, 2, api.ErrOrder},
		{paths{path(0, 1, 0), path(3, 1, 0), path(2, 1, 0), path(8, 0, 0)}, 2, api.ErrOrder},
		{paths{path(4, 1, 0), path(3, 101, 0)}, 1, api.ErrRange},
		{paths{path(4, 1, 0), path(-1, 0, 0)}, 1, api.ErrRange},
		{paths{path(0, 1, 0), path(1, 1, 0), path(2, 1, 0), path(3, 1, 0), path(4, 1, 0), path(4, 1, 0)}, 5, api.ErrOrder},
		{paths{path(5, 1, 0), path(6, 1, 0), path(7, 1, 0), path(0, 1, 0), path(9, 1, 0)}, 3, api.ErrOrder},
	} {
		n, e := wave.CheckPaths(x.l)
		expect(t, "CheckPaths", n, e, x.n, x.e)
	}
}
