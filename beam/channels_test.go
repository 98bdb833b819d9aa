package beam_test

import (
	"fmt"
	"math/big"
	"math/rand"
	"testing"

	"downtilt/api"
	"downtilt/beam"
)

func innerOf(x, y []api.Gauss) api.Gauss {
	var sum api.Gauss
	for i := range x {
		sum.Re += x[i].Re*y[i].Re + x[i].Im*y[i].Im
		sum.Im += x[i].Re*y[i].Im - x[i].Im*y[i].Re
	}
	return sum
}

func energyOf(x []api.Gauss) int {
	return innerOf(x, x).Re
}

func partOf(x, y []api.Gauss) *big.Rat {
	z := innerOf(x, y)
	return big.NewRat(int64(z.Re*z.Re+z.Im*z.Im), int64(energyOf(x)*energyOf(y)))
}

func asFrac(x *big.Rat) api.Frac {
	return frac(int(x.Num().Int64()), int(x.Denom().Int64()))
}

func ratOf(x api.Frac) *big.Rat {
	return big.NewRat(int64(x.Num), int64(x.Den))
}

func cleared(x, y []api.Gauss) []api.Gauss {
	z, energy := innerOf(x, y), energyOf(x)
	l := make([]api.Gauss, len(y))
	for i := range l {
		l[i] = g(
			energy*y[i].Re-(z.Re*x[i].Re-z.Im*x[i].Im),
			energy*y[i].Im-(z.Re*x[i].Im+z.Im*x[i].Re))
	}
	return l
}

// isMultiple tells whether two channels differ by a factor: then all products of two numbers of them, crosswise, are equal.
func isMultiple(x, y []api.Gauss) bool {
	for i := range x {
		for j := range x {
			re := x[i].Re*y[j].Re - x[i].Im*y[j].Im - (x[j].Re*y[i].Re - x[j].Im*y[i].Im)
			im := x[i].Re*y[j].Im + x[i].Im*y[j].Re - (x[j].Re*y[i].Im + x[j].Im*y[i].Re)
			if re != 0 || im != 0 {
				return false
			}
		}
	}
	return true
}

// TestChannelExamples is the example 3 of the chapter.
func TestChannelExamples(t *testing.T) {
	x, y := []api.Gauss{g(1, 0), g(0, 1)}, []api.Gauss{g(1, 0), g(1, 0)}
	z, e := beam.InnerOf(x, y)
	expect(t, "InnerOf", z, e, g(1, -1), api.OK)
	z, e = beam.InnerOf(y, x)
	expect(t, "InnerOf, the other way", z, e, g(1, 1), api.OK)
	part, e := beam.PartOf(x, y)
	expect(t, "PartOf", part, e, frac(1, 2), api.OK)
	l, e := beam.Cleared(x, y)
	expect(t, "Cleared", l, e, []api.Gauss{g(1, 1), g(1, -1)}, api.OK)
	kept, e := beam.KeptOf(x, y)
	expect(t, "KeptOf", kept, e, frac(1, 2), api.OK)
}

// TestChannelEnds is of channels that are apart, multiples, of one antenna, of 0, and as great as they may be.
func TestChannelEnds(t *testing.T) {
	one, other := []api.Gauss{g(1, 0), g(0, 0)}, []api.Gauss{g(0, 0), g(5, -3)}
	part, e := beam.PartOf(one, other)
	expect(t, "PartOf, apart", part, e, frac(0, 1), api.OK)
	kept, e := beam.KeptOf(one, other)
	expect(t, "KeptOf, apart", kept, e, frac(1, 1), api.OK)
	l, e := beam.Cleared(one, other)
	expect(t, "Cleared, apart", l, e, other, api.OK)
	part, e = beam.PartOf(other, []api.Gauss{g(0, 0), g(3, 5)})
	expect(t, "PartOf a multiple", part, e, frac(1, 1), api.OK)
	kept, e = beam.KeptOf(other, other)
	expect(t, "KeptOf itself", kept, e, frac(0, 1), api.OK)
	part, e = beam.PartOf([]api.Gauss{g(0, -30)}, []api.Gauss{g(7, 2)})
	expect(t, "PartOf one antenna", part, e, frac(1, 1), api.OK)
	l, e = beam.Cleared([]api.Gauss{g(0, -30)}, []api.Gauss{g(7, 2)})
	expect(t, "Cleared, one antenna", l, e, []api.Gauss{g(0, 0)}, api.OK)
	zero := []api.Gauss{g(0, 0), g(0, 0)}
	for _, pair := range [][2][]api.Gauss{{one, zero}, {zero, one}, {zero, zero}} {
		z, e := beam.InnerOf(pair[0], pair[1])
		expect(t, "InnerOf 0", z, e, g(0, 0), api.OK)
	}
	most, least := make([]api.Gauss, 8), make([]api.Gauss, 8)
	for i := range most {
		most[i], least[i] = g(30, 30), g(-30, 30)
	}
	least[7] = g(-30, 29)
	z, e := beam.InnerOf(most, least)
	expect(t, "InnerOf the greatest", z, e, g(-30, 14370), api.OK)
	part, e = beam.PartOf(most, least)
	expect(t, "PartOf the greatest", part, e, asFrac(partOf(most, least)), api.OK)
	l, e = beam.Cleared(most, least)
	expect(t, "Cleared of the greatest", l, e, cleared(most, least), api.OK)
}

// TestChannels compares with whole numbers and fractions of any size; P5.11 holds.
func TestChannels(t *testing.T) {
	r := rand.New(rand.NewSource(35))
	for i := range 6000 {
		most := []int{1, 2, 30}[i%3]
		x, y := heardChannel(r, 1+i%8, most), heardChannel(r, 1+i%8, most)
		what := fmt.Sprint(x, y)
		z, e := beam.InnerOf(x, y)
		expect(t, "InnerOf "+what, z, e, innerOf(x, y), api.OK)
		want := partOf(x, y)
		part, e := beam.PartOf(x, y)
		expect(t, "PartOf "+what, part, e, asFrac(want), api.OK)
		back, e := beam.PartOf(y, x)
		expect(t, "PartOf, the other way "+what, back, e, part, api.OK)
		kept, e := beam.KeptOf(x, y)
		expect(t, "KeptOf "+what, kept, e, asFrac(new(big.Rat).Sub(big.NewRat(1, 1), want)), api.OK)
		l, e := beam.Cleared(x, y)
		expect(t, "Cleared "+what, l, e, cleared(x, y), api.OK)
		if innerOf(x, l) != g(0, 0) {
			t.Errorf("the inner product of %v and %v, cleared of it, is %v", x, y, innerOf(x, l))
		}
		if part.Num < 0 || part.Num > part.Den || (part == frac(1, 1)) != isMultiple(x, y) {
			t.Errorf("the part %v of %s", part, what)
		}
	}
}

// TestMayShare tries greatest parts at the part of two channels, and just beside it.
func TestMayShare(t *testing.T) {
	r := rand.New(rand.NewSource(36))
	for i := range 2000 {
		x, y := heardChannel(r, 1+i%8, []int{1, 2, 30}[i%3]), heardChannel(r, 1+i%8, []int{1, 2, 30}[i%3])
		part := partOf(x, y)
		tiny := big.NewRat(1, 1000000000)
		below := big.NewRat(new(big.Int).Div(new(big.Int).Mul(part.Num(), big.NewInt(1000000000)), part.Denom()).Int64(), 1000000000)
		above := new(big.Rat).Add(below, tiny)
		for _, most := range []*big.Rat{part, below, above, big.NewRat(0, 1), big.NewRat(1, 1), big.NewRat(1, 2), big.NewRat(1, 3)} {
			if most.Cmp(big.NewRat(1, 1)) > 0 {
				continue
			}
			ok, e := beam.MayShare(x, y, asFrac(most))
			expect(t, fmt.Sprint("MayShare ", x, y, most), ok, e, part.Cmp(most) <= 0, api.OK)
		}
	}
}

// TestMayShareEnds is of a greatest part of 1, which lets all share, and of 0, which lets those alone that are apart.
func TestMayShareEnds(t *testing.T) {
	x := []api.Gauss{g(1, 0), g(0, 1)}
	for _, y := range [][]api.Gauss{x, {g(0, 1), g(-1, 0)}, {g(1, 0), g(1, 0)}, {g(1, 0), g(0, -1)}, {g(29, 0), g(30, 30)}} {
		ok, e := beam.MayShare(x, y, frac(1, 1))
		expect(t, "MayShare, 1", ok, e, true, api.OK)
		ok, e = beam.MayShare(x, y, frac(0, 1))
		expect(t, "MayShare, 0", ok, e, innerOf(x, y) == g(0, 0), api.OK)
	}
}
