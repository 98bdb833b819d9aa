package symbol_test

import (
	"math/big"
	"math/rand"
	"testing"

	"downtilt/api"
	"downtilt/symbol"
)

// nearest is the bits of the level that is nearest to a part, of two the lesser one, by a look at all of them.
func nearest(part, gain, count int) []int {
	best := 0
	all := levels()[count]
	for number, level := range all {
		by := distance(part, gain*level) - distance(part, gain*all[best])
		if by < 0 || by == 0 && level < all[best] {
			best = number
		}
	}
	return label(best, count)
}

func distance(a, b int) int {
	return max(a-b, b-a)
}

// softOf is the soft bits of a part, with squares of any size.
func softOf(part, gain, count int) []int {
	var soft []int
	for place := range count {
		least := [2]*big.Int{}
		for number, level := range levels()[count] {
			bit := label(number, count)[place]
			square := big.NewInt(int64(part - gain*level))
			square.Mul(square, square)
			if least[bit] == nil || square.Cmp(least[bit]) < 0 {
				least[bit] = square
			}
		}
		soft = append(soft, int(new(big.Int).Sub(least[1], least[0]).Int64()))
	}
	return soft
}

// bothParts is what of tells of both parts of all symbols, their bits taking turns.
func bothParts(x api.SymbolReceived, of func(part, gain, count int) []int) []int {
	var l []int
	for _, s := range x.Symbols {
		re, im := of(s.Re, x.Gain, x.Order/2), of(s.Im, x.Gain, x.Order/2)
		for i := range re {
			l = append(l, re[i], im[i])
		}
	}
	return l
}

// expectReceived compares the hard bits and the soft bits with those above, and with one another (P3.11).
func expectReceived(t *testing.T, x api.SymbolReceived) {
	t.Helper()
	hard, e := symbol.Hard(x)
	expect(t, "Hard", hard, e, bothParts(x, nearest), api.OK)
	soft, e := symbol.Soft(x)
	expect(t, "Soft", soft, e, bothParts(x, softOf), api.OK)
	for i, s := range soft {
		if s > 0 && hard[i] != 0 || s < 0 && hard[i] != 1 {
			t.Errorf("of %v the bit %d is %d, and its soft bit %d", x, i, hard[i], s)
		}
	}
}

func TestReceivedExamples(t *testing.T) {
	x := api.SymbolReceived{Order: 4, Gain: 2, Symbols: []api.Gauss{g(5, 1)}}
	soft, e := symbol.Soft(x)
	expect(t, "Soft", soft, e, []int{48, 8, -8, 24}, api.OK)
	hard, e := symbol.Hard(x)
	expect(t, "Hard", hard, e, []int{0, 0, 1, 0}, api.OK)
	for _, x := range []struct {
		order, gain int
		at          api.Gauss
		hard, soft  []int
	}{
		{4, 2, g(4, 1), []int{0, 0, 0, 0}, []int{36 - 4, 8, 0, 24}}, // as near to 1 as to 3
		{4, 2, g(-4, -4), []int{1, 1, 1, 1}, []int{-32, -32, 0, 0}}, // as near to -1 as to -3, which is less
		{2, 3, g(0, 0), []int{1, 1}, []int{0, 0}},                   // as near to 1 as to -1
		{4, 1, g(0, 9), []int{1, 0, 0, 1}, []int{0, 64, 8, -28}},    // beyond all levels
		{6, 1, g(0, -9), []int{1, 1, 0, 1, 1, 1}, []int{0, -96, 24, -32, -8, -12}},
		{6, 1, g(4, -2), []int{0, 1, 0, 0, 0, 0}, []int{24, -8, 0, 8, 8, 0}}, // 3 and not 5; -3 and not -1
	} {
		in := api.SymbolReceived{Order: x.order, Gain: x.gain, Symbols: []api.Gauss{x.at}}
		hard, e := symbol.Hard(in)
		expect(t, "Hard", hard, e, x.hard, api.OK)
		soft, e := symbol.Soft(in)
		expect(t, "Soft", soft, e, x.soft, api.OK)
	}
}

// TestReceivedAsDefined goes through all parts near the levels, and far beyond.
func TestReceivedAsDefined(t *testing.T) {
	const most = 100000000
	r := rand.New(rand.NewSource(4))
	for _, order := range []int{2, 4, 6} {
		for gain := 1; gain <= 4; gain++ {
			for part := -9 * gain; part <= 9*gain; part++ {
				expectReceived(t, api.SymbolReceived{Order: order, Gain: gain, Symbols: []api.Gauss{g(part, -part), g(1, part)}})
			}
		}
		for _, gain := range []int{1, 2, 9999999, 10000000} {
			ends := []api.Gauss{g(most, -most), g(-most, most), g(most-1, 1-most), g(0, gain)}
			expectReceived(t, api.SymbolReceived{Order: order, Gain: gain, Symbols: append(ends, randomSymbols(r, 196, most)...)})
		}
		for range 100 {
			gain := 1 + r.Intn(10000000)
			expectReceived(t, api.SymbolReceived{Order: order, Gain: gain, Symbols: randomSymbols(r, 1+r.Intn(20), min(9*gain, most))})
		}
	}
}

func TestFartherIsGreater(t *testing.T) {
	for _, order := range []int{2, 4, 6} {
		before := 0
		for part := 1; part < 30; part++ {
			soft := must(symbol.Soft(api.SymbolReceived{Order: order, Gain: 2, Symbols: []api.Gauss{g(part, -part)}}))
			if soft[0] <= before || soft[1] != -soft[0] {
				t.Errorf("order %d, %d: %v behind %d", order, part, soft, before)
			}
			before = soft[0]
		}
	}
}

func TestGreatestError(t *testing.T) {
	for _, x := range []struct {
		gain           int
		received, sent []api.Gauss
		greatest       int
		first          int
	}{
		{2, []api.Gauss{g(5, 1)}, []api.Gauss{g(3, 1)}, 1, 0},
		{1, []api.Gauss{g(3, -1), g(7, 7)}, []api.Gauss{g(3, -1), g(7, 7)}, 0, 0},
		{3, []api.Gauss{g(3, 0), g(-3, 5), g(1, 3), g(3, 3)}, []api.Gauss{g(1, 0), g(-1, 1), g(1, 1), g(1, 1)}, 2, 1},
		{1, []api.Gauss{g(0, 0), g(0, -4), g(4, 0), g(0, 5), g(-5, 0)}, make([]api.Gauss, 5), 5, 3},
		{1, []api.Gauss{g(-6, 5), g(0, 0)}, make([]api.Gauss, 2), 6, 0},
		{10000000, []api.Gauss{g(0, 0), g(-100000000, 0)}, []api.Gauss{g(0, 0), g(10, 10)}, 200000000, 1},
		{1, []api.Gauss{g(0, 100000000)}, []api.Gauss{g(0, -100000000)}, 200000000, 0},
		{2, []api.Gauss{g(0, 0)}, []api.Gauss{g(50000000, -50000000)}, 100000000, 0},
	} {
		greatest, first, e := symbol.GreatestError(api.SymbolReceived{Order: 6, Gain: x.gain, Symbols: x.received}, x.sent)
		expect(t, "GreatestError", []int{greatest, first}, e, []int{x.greatest, x.first}, api.OK)
	}
}

// TestSignsHold is P3.9 and P3.10.
func TestSignsHold(t *testing.T) {
	r := rand.New(rand.NewSource(5))
	for _, order := range []int{2, 4, 6} {
		for _, gain := range []int{1, 2, 3, 10, 1000, 10000000} {
			bits := randomBits(r, 400/order*order)
			sent := must(symbol.Modulated(order, bits))
			x := api.SymbolReceived{Order: order, Gain: gain}
			for i, s := range sent {
				by := gain - 1
				if i%2 == 0 {
					by = r.Intn(gain)
				}
				x.Symbols = append(x.Symbols, g(s.Re*gain+by, s.Im*gain-by))
			}
			greatest, _, e := symbol.GreatestError(x, sent)
			expect(t, "GreatestError", greatest, e, gain-1, api.OK)
			hard, e := symbol.Hard(x)
			expect(t, "Hard", hard, e, bits, api.OK)
			for i, s := range must(symbol.Soft(x)) {
				if s == 0 || s > 0 != (bits[i] == 0) {
					t.Errorf("order %d, gain %d: the bit %d has the soft bit %d", order, gain, bits[i], s)
				}
			}
		}
	}
}
