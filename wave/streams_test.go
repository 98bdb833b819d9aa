package wave_test

import (
	"math"
	"math/rand"
	"slices"
	"testing"

	"downtilt/api"
	"downtilt/wave"
)

// TestStreamExample is the example 3 of the chapter.
func TestStreamExample(t *testing.T) {
	samples := []api.WaveNumber{power(0), power(1), power(2), power(3), power(4), power(5), power(6), power(7)}
	symbol := [8]api.Gauss{1: g(1, 0)}
	l, e := wave.Stream([][8]api.Gauss{symbol}, 2)
	expect(t, "Stream", l, e, slices.Concat([]api.WaveNumber{power(6), power(7)}, samples), api.OK)
	l, e = wave.Stream([][8]api.Gauss{symbol, {}, symbol}, 0)
	expect(t, "Stream without guard intervals", l, e, slices.Concat(samples, make([]api.WaveNumber, 8), samples), api.OK)
	l, e = wave.Stream([][8]api.Gauss{symbol, symbol}, 7)
	expect(t, "Stream with the longest ones", l, e, slices.Concat(samples[1:], samples, samples[1:], samples), api.OK)
}

// TestStreamsThereAndBack compares streams with their definition, and takes all symbols out of them.
func TestStreamsThereAndBack(t *testing.T) {
	r := rand.New(rand.NewSource(8))
	for guard := range 8 {
		for count := 1; count <= 6; count++ {
			symbols := randomSymbols(r, count, 10000)
			var want []api.WaveNumber
			for _, x := range symbols {
				samples := samplesOf(x)
				for n := 8 - guard; n < 8; n++ {
					want = append(want, samples[n])
				}
				want = append(want, samples[:]...)
			}
			stream, e := wave.Stream(symbols, guard)
			expect(t, "Stream", stream, e, want, api.OK)
			for i, x := range symbols {
				samples, e := wave.SymbolOf(stream, guard, i)
				expect(t, "SymbolOf", samples, e, samplesOf(x), api.OK)
			}
		}
	}
}

// TestSymbolsOfAnyStream is of lists that need not be as long as a number of symbols.
func TestSymbolsOfAnyStream(t *testing.T) {
	r := rand.New(rand.NewSource(9))
	for length := range 121 {
		stream := randomNumbers(r, length, 1000000000)
		for guard := range 8 {
			for _, symbol := range []int{-1, math.MinInt, math.MaxInt, math.MaxInt / 15, math.MaxInt/15 + 1, 1 << 60, 1 << 61, 1 << 62} {
				s, e := wave.SymbolOf(stream, guard, symbol)
				expect(t, "SymbolOf far away", s, e, [8]api.WaveNumber{}, api.ErrMissing)
			}
			for symbol := range 17 {
				s, e := wave.SymbolOf(stream, guard, symbol)
				first := symbol*(8+guard) + guard
				if first+8 <= length {
					expect(t, "SymbolOf", s, e, [8]api.WaveNumber(stream[first:first+8]), api.OK)
				} else {
					expect(t, "SymbolOf beyond the end", s, e, [8]api.WaveNumber{}, api.ErrMissing)
				}
			}
		}
	}
}
