package code_test

import (
	"math"
	"math/bits"
	"math/rand"
	"slices"
	"testing"

	"downtilt/api"
	"downtilt/code"
)

// square is the polar code of the chapter's examples.
func square() api.CodePolar {
	return api.CodePolar{Power: 2, Info: []int{1, 2, 3}}
}

func TestCheckPolar(t *testing.T) {
	for _, w := range wrongPolars() {
		if e := code.CheckPolar(w.x); e != w.e {
			t.Errorf("CheckPolar(%v): %d, want %d", w.x, e, w.e)
		}
	}
	for _, c := range []api.CodePolar{square(), {Power: 0, Info: []int{0}}, {Power: 6, Info: []int{63}}, {Power: 2, Info: []int{0, 1, 2, 3}}} {
		if e := code.CheckPolar(c); e != api.OK {
			t.Errorf("CheckPolar(%v): %d", c, e)
		}
	}
}

type polarArguments struct {
	c          api.CodePolar
	bits, soft []int
}

func TestErrorsOfPolarCodes(t *testing.T) {
	fresh := func() polarArguments { return polarArguments{square(), bitsOf("101"), []int{4, 3, -2, -5}} }
	codes := spoils("code", wrongPolars(), func(a *polarArguments, c api.CodePolar) { a.c = c })
	many := append(wrongBits(),
		wrong[[]int]{bitsOf("10"), api.ErrShape},
		wrong[[]int]{bitsOf("1011"), api.ErrShape},
		wrong[[]int]{[]int{0, 2}, api.ErrKind})
	bits := spoils("bits", many, func(a *polarArguments, b []int) { a.bits = b })
	checkErrors(t, "Encode", fresh, func(a polarArguments) ([]int, api.Errno) { return code.Encode(a.c, a.bits) }, codes, bits)
	many = append(wrongSoft(),
		wrong[[]int]{[]int{1, 2, 3}, api.ErrShape},
		wrong[[]int]{[]int{1, 2, 3, 4, 5}, api.ErrShape},
		wrong[[]int]{make([]int, 400), api.ErrShape})
	soft := spoils("soft", many, func(a *polarArguments, s []int) { a.soft = s })
	checkErrors(t, "Decode", fresh, func(a polarArguments) ([]int, api.Errno) { return code.Decode(a.c, a.soft) }, codes, soft)
	checkErrors(t, "DistanceOf", fresh, func(a polarArguments) (pair[int, []int], api.Errno) { return both(code.DistanceOf(a.c)) }, codes)
}

func TestPositions(t *testing.T) {
	for _, x := range []struct {
		power, count int
		want         []int
		e            api.Errno
	}{
		{3, 4, []int{3, 5, 6, 7}, api.OK},
		{3, 3, []int{5, 6, 7}, api.OK},
		{3, 1, []int{7}, api.OK},
		{3, 5, []int{3, 4, 5, 6, 7}, api.OK},
		{3, 8, []int{0, 1, 2, 3, 4, 5, 6, 7}, api.OK},
		{0, 1, []int{0}, api.OK},
		{6, 2, []int{62, 63}, api.OK},
		{0, 0, nil, api.ErrRange},
		{0, 2, nil, api.ErrRange},
		{3, 0, nil, api.ErrRange},
		{3, 9, nil, api.ErrRange},
		{3, math.MinInt, nil, api.ErrRange},
		{3, math.MaxInt, nil, api.ErrRange},
		{-1, 1, nil, api.ErrRange},
		{7, 1, nil, api.ErrRange},
		{math.MinInt, 1, nil, api.ErrRange},
		{math.MaxInt, 1, nil, api.ErrRange},
	} {
		l, e := code.Positions(x.power, x.count)
		expect(t, "Positions", l, e, x.want, x.e)
	}
}

// TestPositionsAreTheBest compares each position that is there with each one that is not.
func TestPositionsAreTheBest(t *testing.T) {
	for power := range 7 {
		for count := 1; count <= 1<<power; count++ {
			l := must(code.Positions(power, count))
			if len(l) != count || code.CheckPolar(api.CodePolar{Power: power, Info: l}) != api.OK {
				t.Fatalf("Positions(%d, %d): %v", power, count, l)
			}
			for _, in := range l {
				for out := range 1 << power {
					better := bits.OnesCount(uint(out))*64+out > bits.OnesCount(uint(in))*64+in
					if better && !slices.Contains(l, out) {
						t.Fatalf("Positions(%d, %d): %v has %d and not %d", power, count, l, in, out)
					}
				}
			}
		}
	}
}

func TestPolarExamples(t *testing.T) {
	word, e := code.Encode(square(), bitsOf("101"))
	expect(t, "Encode", word, e, bitsOf("0011"), api.OK)
	word, e = code.Encode(square(), bitsOf("100"))
	expect(t, "Encode of one", word, e, bitsOf("1100"), api.OK)
	found, e := code.Decode(square(), []int{4, 3, -2, -5})
	expect(t, "Decode", found, e, bitsOf("101"), api.OK)
	n, found, e := code.DistanceOf(square())
	expect(t, "DistanceOf", pair[int, []int]{n, found}, e, pair[int, []int]{2, bitsOf("100")}, api.OK)
	n, found, e = code.DistanceOf(api.CodePolar{Power: 3, Info: []int{3, 4, 6, 7}})
	expect(t, "DistanceOf of a later one", pair[int, []int]{n, found}, e, pair[int, []int]{2, bitsOf("0100")}, api.OK)
	n, found, e = code.DistanceOf(api.CodePolar{Power: 3, Info: []int{3, 5, 7}})
	expect(t, "DistanceOf of two", pair[int, []int]{n, found}, e, pair[int, []int]{4, bitsOf("100")}, api.OK)
	n, found, e = code.DistanceOf(api.CodePolar{Power: 0, Info: []int{0}})
	expect(t, "DistanceOf of one bit", pair[int, []int]{n, found}, e, pair[int, []int]{1, bitsOf("1")}, api.OK)
	n, found, e = code.DistanceOf(api.CodePolar{Power: 6, Info: []int{63}})
	expect(t, "DistanceOf of 63", pair[int, []int]{n, found}, e, pair[int, []int]{64, bitsOf("1")}, api.OK)
}

func TestDecodeOfNothing(t *testing.T) {
	one := api.CodePolar{Power: 0, Info: []int{0}}
	for _, x := range []struct {
		c    api.CodePolar
		soft []int
		want string
	}{
		{one, []int{0}, "0"}, // 0 is decoded as 0
		{one, []int{1}, "0"},
		{one, []int{-1}, "1"},
		{one, []int{-1000000}, "1"},
		{square(), []int{0, 0, 0, 0}, "000"},
		// the position 0 is frozen, though its soft bit is -1: so 1 is found from 1 - 4; 2 from 4 + 4 and 1 - 3, 3 from -2 - 8
		{square(), []int{-4, 3, 4, 1}, "111"},
		// the lesser size is 0, without a sign: the position 0 is not found to be 1
		{api.CodePolar{Power: 1, Info: []int{0, 1}}, []int{-5, 0}, "01"},
		{api.CodePolar{Power: 1, Info: []int{0, 1}}, []int{0, -5}, "01"},
		{api.CodePolar{Power: 1, Info: []int{0, 1}}, []int{-5, 4}, "10"},
		{api.CodePolar{Power: 1, Info: []int{0, 1}}, []int{4, -5}, "11"},
		{api.CodePolar{Power: 1, Info: []int{1}}, []int{4, -5}, "1"},
		{api.CodePolar{Power: 1, Info: []int{1}}, []int{5, -5}, "0"},
	} {
		found, e := code.Decode(x.c, x.soft)
		expect(t, "Decode", found, e, bitsOf(x.want), api.OK)
	}
}

// wordSlowly is the word of positions by its halves.
func wordSlowly(positions []int) []int {
	if len(positions) == 1 {
		return slices.Clone(positions)
	}
	half := len(positions) / 2
	a, b := wordSlowly(positions[:half]), wordSlowly(positions[half:])
	return append(xor(a, b), b...)
}

// softAt is from which soft bit a position is found, if those before it are known.
func softAt(soft, before []int, position int) int {
	if len(soft) == 1 {
		return soft[0]
	}
	half := len(soft) / 2
	next := make([]int, half)
	if position < half {
		for i := range next {
			next[i] = signed(soft[i], soft[half+i])
		}
		return softAt(next, before, position)
	}
	for i, v := range wordSlowly(before[:half]) {
		next[i] = soft[half+i] + soft[i]*(1-2*v)
	}
	return softAt(next, before[half:], position-half)
}

// signed has the lesser size of two numbers, and the sign of their product.
func signed(a, b int) int {
	size, sign := min(sizeOf(a), sizeOf(b)), 1
	if a < 0 {
		sign = -sign
	}
	if b < 0 {
		sign = -sign
	}
	return size * sign
}

func sizeOf(n int) int {
	if n < 0 {
		return -n
	}
	return n
}

// decodedSlowly finds the positions one by one, each anew from the soft bits.
func decodedSlowly(c api.CodePolar, soft []int) []int {
	var positions, found []int
	for position := range 1 << c.Power {
		b := 0
		if slices.Contains(c.Info, position) {
			if softAt(soft, positions, position) < 0 {
				b = 1
			}
			found = append(found, b)
		}
		positions = append(positions, b)
	}
	return found
}

func TestPolarCodesAsDefined(t *testing.T) {
	r := rand.New(rand.NewSource(4))
	for range 2000 {
		power := r.Intn(7)
		c := randomPolar(r, power, 1+r.Intn(1<<power))
		sent := randomBits(r, len(c.Info))
		positions := make([]int, 1<<power)
		for k, position := range c.Info {
			positions[position] = sent[k]
		}
		word, e := code.Encode(c, sent)
		expect(t, "Encode", word, e, wordSlowly(positions), api.OK)
		soft := randomSoft(r, 1<<power, []int{1, 3, 1000000}[r.Intn(3)])
		found, e := code.Decode(c, soft)
		expect(t, "Decode", found, e, decodedSlowly(c, soft), api.OK)
		// P2.11: the signs of a word are enough
		found, e = code.Decode(c, softOf(r, word, []int{1, 9, 1000000}[r.Intn(3)]))
		expect(t, "Decode of a word", found, e, sent, api.OK)
	}
}

// TestDistance is P2.12: the distance is that of the nearest two words, and the sum of two words is the word of the sum.
func TestDistance(t *testing.T) {
	r := rand.New(rand.NewSource(5))
	for range 150 {
		power := r.Intn(5)
		count := 1 + r.Intn(min(1<<power, 6))
		c := randomPolar(r, power, count)
		distance, one, e := code.DistanceOf(c)
		if e != api.OK || onesIn(one) != 1 || onesIn(must(code.Encode(c, one))) != distance {
			t.Fatalf("DistanceOf(%v): %d, %v, %d", c, distance, one, e)
		}
		k := slices.Index(one, 1)
		for _, position := range c.Info[:k] {
			if 1<<bits.OnesCount(uint(position)) == distance {
				t.Errorf("DistanceOf(%v): %v is not the first", c, one)
			}
		}
		nearest := math.MaxInt
		for a := range 1 << count {
			for b := range a {
				x, y := numbered(a, count), numbered(b, count)
				v, w := must(code.Encode(c, x)), must(code.Encode(c, y))
				nearest = min(nearest, onesIn(xor(v, w)))
				if !slices.Equal(xor(v, w), must(code.Encode(c, xor(x, y)))) {
					t.Fatalf("the words of %v and %v in %v", x, y, c)
				}
			}
		}
		if nearest != distance {
			t.Errorf("DistanceOf(%v): %d, want %d", c, distance, nearest)
		}
	}
}
