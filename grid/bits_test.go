package grid_test

import (
	"math/rand"
	"slices"
	"testing"

	"downtilt/api"
	"downtilt/grid"
)

// written is numbers one after the other, each with its count of bits, and the bit that makes the ones even.
func written(pairs ...int) []int {
	var bits []int
	ones := 0
	for i := 0; i < len(pairs); i += 2 {
		for b := pairs[i+1] - 1; b >= 0; b-- {
			bit := pairs[i] >> b & 1
			ones += bit
			bits = append(bits, bit)
		}
	}
	return append(bits, ones%2)
}

// signalPairs are the fields of a signal with their counts.
func signalPairs(s api.GridSignal) []int {
	return []int{s.Kind, 3, s.Part, 2, s.Period, 14, s.Offset, 14, s.Slot + 1, 4, s.Symbol, 4, s.Symbols, 4, s.Block, 5, s.Blocks, 5, s.Step, 4, s.Shift, 4}
}

func bitsOf(c api.GridCarrier) []int {
	pairs := []int{c.Cell, 10, c.Width, 10, len(c.Parts), 3}
	for _, p := range c.Parts {
		pairs = append(pairs, p.Mu, 2, p.First, 10, p.Blocks, 5)
	}
	pairs = append(pairs, len(c.Signals), 4)
	for _, s := range c.Signals {
		pairs = append(pairs, signalPairs(s)...)
	}
	return written(pairs...)
}

func TestBitsOf(t *testing.T) {
	for _, c := range []api.GridCarrier{example(), mixed()} {
		bits, e := grid.BitsOf(c)
		expect(t, "BitsOf", bits, e, bitsOf(c), api.OK)
	}
	bits, e := grid.BitsOf(example())
	expect(t, "how many bits", len(bits), e, 297, api.OK)
	bits, e = grid.BitsOf(wrong())
	expect(t, "BitsOf a wrong carrier", bits, e, []int(nil), api.ErrName)
}

func TestFromBits(t *testing.T) {
	r := rand.New(rand.NewSource(5))
	l := []api.GridCarrier{example(), mixed(), {Name: "c", Width: 12, Parts: []api.GridPart{{Blocks: 1}}}}
	for range 100 {
		l = append(l, randomCarrier(r))
	}
	full := api.GridCarrier{Name: "full", Cell: 1007, Width: 600, Parts: slices.Repeat([]api.GridPart{{Mu: 3, First: 504, Blocks: 1}}, 4)}
	full.Signals = slices.Repeat([]api.GridSignal{{Kind: api.GridData, Part: 3, Period: 10240, Offset: 10239, Slot: 7, Symbol: 13, Symbols: 1, Blocks: 1, Step: 12, Shift: 11}}, 12)
	for _, c := range append(l, full) {
		bits, e := grid.BitsOf(c)
		if e != api.OK {
			t.Fatalf("BitsOf(%v): %d", c, e)
		}
		expect(t, "BitsOf", bits, e, bitsOf(c), api.OK)
		d, e := grid.FromBits(c.Name, bits)
		expect(t, "FromBits", d, e, c, api.OK)
		other := c
		other.Name = "other"
		d, e = grid.FromBits("other", bits)
		expect(t, "FromBits with another name", d, e, other, api.OK)
	}
}

func TestATurnedBitIsRefused(t *testing.T) {
	for _, c := range []api.GridCarrier{example(), mixed()} {
		bits := bitsOf(c)
		for i := range bits {
			turned := slices.Clone(bits)
			turned[i] ^= 1
			d, e := grid.FromBits("c", turned)
			expect(t, "FromBits with a turned bit", d, e, api.GridCarrier{}, api.ErrSum)
		}
	}
}

func TestErrorsOfBits(t *testing.T) {
	right := bitsOf(example())
	large := make([]int, 1001)
	oddLarge := slices.Clone(large)
	oddLarge[0] = 1
	formLarge := slices.Clone(oddLarge)
	formLarge[1000] = 2
	short := func(n int) []int { // cut, and even again
		return written(numbersOf(right[:n])...)
	}
	for i, x := range []struct {
		name string
		bits []int
		e    api.Errno
	}{
		{"9", formLarge, api.ErrName},
		{"c", formLarge, api.ErrForm},
		{"c", []int{-1}, api.ErrForm},
		{"c", oddLarge, api.ErrLarge},
		{"c", large, api.ErrLarge},
		{"c", large[:1000], api.ErrShape},
		{"c", []int{1}, api.ErrSum},
		{"c", nil, api.ErrShape},
		{"c", []int{0}, api.ErrShape},
		{"c", append(slices.Clone(right), 0), api.ErrShape},
		{"c", right[:len(right)-1], api.ErrShape}, // its last bit is 0
		{"c", append(slices.Clone(right[:len(right)-1]), 1-right[len(right)-1], 1), api.ErrShape},
		{"c", short(22), api.ErrShape},
		{"c", short(23), api.ErrShape},
		{"c", short(39), api.ErrShape},
		{"c", short(44), api.ErrShape},
		{"c", short(295), api.ErrShape},
		{"c", short(296), api.OK},
	} {
		want := api.GridCarrier{}
		if x.e == api.OK {
			want = example()
		}
		d, e := grid.FromBits(x.name, x.bits)
		if !same(d, want) || e != x.e {
			t.Errorf("case %d: %v, %d, want %d", i, d, e, x.e)
		}
	}
}

// numbersOf is bits as numbers of one bit each.
func numbersOf(bits []int) []int {
	var l []int
	for _, b := range bits {
		l = append(l, b, 1)
	}
	return l
}

// TestBitsOfWrongCarriers has bits whose number is right, and whose carrier is not.
func TestBitsOfWrongCarriers(t *testing.T) {
	s := example().Signals[0]
	change := func(f func(s *api.GridSignal)) []int {
		x := s
		f(&x)
		return append([]int{4, 10, 48, 10, 1, 3, 0, 2, 0, 10, 4, 5, 1, 4}, signalPairs(x)...)
	}
	for i, x := range []struct {
		pairs []int
		e     api.Errno
	}{
		{change(func(s *api.GridSignal) {}), api.OK},
		{change(func(s *api.GridSignal) { s.Kind = 6 }), api.ErrKind},
		{change(func(s *api.GridSignal) { s.Part = 1 }), api.ErrMissing},
		{change(func(s *api.GridSignal) { s.Period = 0 }), api.ErrRange},
		{change(func(s *api.GridSignal) { s.Period = 3 }), api.ErrForm},
		{change(func(s *api.GridSignal) { s.Slot = 14 }), api.ErrRange},
		{change(func(s *api.GridSignal) { s.Slot = api.GridEach }), api.OK},
		{change(func(s *api.GridSignal) { s.Symbol, s.Symbols = 1, 14 }), api.ErrBreak},
		{[]int{1008, 10, 48, 10, 1, 3, 0, 2, 0, 10, 4, 5, 0, 4}, api.ErrRange},
		{[]int{4, 10, 48, 10, 0, 3, 0, 4}, api.ErrShape},
		{append([]int{4, 10, 48, 10, 5, 3}, append(slices.Repeat([]int{0, 2, 0, 10, 1, 5}, 5), 0, 4)...), api.ErrLarge},
		{[]int{4, 10, 48, 10, 1, 3, 1, 2, 1, 10, 1, 5, 0, 4}, api.ErrForm},
		{append([]int{4, 10, 48, 10, 1, 3, 0, 2, 0, 10, 4, 5, 13, 4}, slices.Repeat(signalPairs(s), 13)...), api.ErrLarge},
	} {
		_, e := grid.FromBits("c", written(x.pairs...))
		if e != x.e {
			t.Errorf("case %d: %d, want %d", i, e, x.e)
		}
	}
}

// TestBothSidesAlike is P1.8: the phone tells the same owners as the site.
func TestBothSidesAlike(t *testing.T) {
	r := rand.New(rand.NewSource(6))
	for range 30 {
		c := randomCarrier(r)
		bits, _ := grid.BitsOf(c)
		d, e := grid.FromBits("phone", bits)
		if e != api.OK {
			t.Fatalf("FromBits of %v: %d", c, e)
		}
		for range 100 {
			part := r.Intn(len(c.Parts))
			p := c.Parts[part]
			x := api.GridPlace{Part: part, Subframe: r.Intn(api.GridSubframes), Slot: r.Intn(1 << p.Mu), Symbol: r.Intn(14), Carrier: r.Intn(12 * p.Blocks)}
			a, e := grid.OwnerOf(c, x)
			b, f := grid.OwnerOf(d, x)
			expect(t, "OwnerOf of the phone", b, f, a, e)
		}
	}
}
