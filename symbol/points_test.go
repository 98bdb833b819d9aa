package symbol_test

import (
	"math/rand"
	"slices"
	"testing"

	"downtilt/api"
	"downtilt/symbol"
)

// levels is for each count of bits all levels, in the order of the numbers that their bits are, worked out by hand.
func levels() [][]int {
	return [][]int{1: {1, -1}, 2: {1, 3, -1, -3}, 3: {3, 1, 5, 7, -3, -1, -5, -7}}
}

// label is the bits of a number, the most significant one first.
func label(number, count int) []int {
	bits := make([]int, count)
	for i := range bits {
		bits[i] = number >> (count - 1 - i) & 1
	}
	return bits
}

// numberOf is the number that bits are.
func numberOf(bits []int) int {
	n := 0
	for _, b := range bits {
		n = 2*n + b
	}
	return n
}

// pointOf takes the levels of a point out of the table.
func pointOf(bits []int) api.Gauss {
	var re, im []int
	for i := 0; i < len(bits); i += 2 {
		re, im = append(re, bits[i]), append(im, bits[i+1])
	}
	of := levels()[len(bits)/2]
	return g(of[numberOf(re)], of[numberOf(im)])
}

func TestLevels(t *testing.T) {
	for count := 1; count <= 3; count++ {
		for number, want := range levels()[count] {
			bits := label(number, count)
			level, e := symbol.LevelOf(bits)
			expect(t, "LevelOf", level, e, want, api.OK)
			back, e := symbol.BitsOf(count, level)
			expect(t, "BitsOf", back, e, bits, api.OK)
		}
	}
}

func TestPoints(t *testing.T) {
	l, e := symbol.Points(2)
	expect(t, "Points(2)", l, e, []api.Gauss{g(1, 1), g(1, -1), g(-1, 1), g(-1, -1)}, api.OK)
	l, e = symbol.Points(4)
	expect(t, "Points(4)", l, e, []api.Gauss{
		g(1, 1), g(1, 3), g(3, 1), g(3, 3), g(1, -1), g(1, -3), g(3, -1), g(3, -3),
		g(-1, 1), g(-1, 3), g(-3, 1), g(-3, 3), g(-1, -1), g(-1, -3), g(-3, -1), g(-3, -3),
	}, api.OK)
	l, e = symbol.Points(6)
	var want []api.Gauss
	for number := range 64 {
		want = append(want, pointOf(label(number, 6)))
	}
	expect(t, "Points(6)", l, e, want, api.OK)
	expect(t, "Points(6), its ends", []api.Gauss{l[0], l[1], l[8], l[63]}, e, []api.Gauss{g(3, 3), g(3, 1), g(5, 3), g(-7, -7)}, api.OK)
}

// TestGray is P3.8: all points are different, and neighbours have one other bit.
func TestGray(t *testing.T) {
	for _, order := range []int{2, 4, 6} {
		l := must(symbol.Points(order))
		neighbours := 0
		for i, p := range l {
			if slices.Contains(l[:i], p) {
				t.Errorf("two points of %d are %v", order, p)
			}
			for j, q := range l {
				if p.Im == q.Im && q.Re-p.Re == 2 || p.Re == q.Re && q.Im-p.Im == 2 {
					neighbours++
					if other := i ^ j; other&(other-1) != 0 {
						t.Errorf("the points %d and %d of %d are neighbours", i, j, order)
					}
				}
			}
		}
		side := 1 << (order / 2)
		expect(t, "neighbours", neighbours, api.OK, 2*side*(side-1), api.OK)
	}
}

func TestModulated(t *testing.T) {
	l, e := symbol.Modulated(4, []int{0, 1, 1, 0})
	expect(t, "Modulated", l, e, []api.Gauss{g(3, -1)}, api.OK)
	l, e = symbol.Modulated(2, []int{0, 1, 1, 0})
	expect(t, "Modulated of two", l, e, []api.Gauss{g(1, -1), g(-1, 1)}, api.OK)
	l, e = symbol.Modulated(6, []int{0, 1, 1, 1, 0, 1, 1, 0, 0, 0, 0, 0})
	expect(t, "Modulated of six", l, e, []api.Gauss{g(5, -7), g(-3, 3)}, api.OK)
	r := rand.New(rand.NewSource(3))
	for _, order := range []int{2, 4, 6} {
		for _, count := range []int{1, 2, 7, 400 / order} {
			bits := randomBits(r, count*order)
			var want []api.Gauss
			for i := 0; i < len(bits); i += order {
				want = append(want, pointOf(bits[i:i+order]))
			}
			l, e := symbol.Modulated(order, bits)
			expect(t, "Modulated", l, e, want, api.OK)
		}
	}
}
