package wave_test

import (
	"math"
	"math/rand"
	"slices"
	"testing"

	"downtilt/api"
	"downtilt/wave"
)

// bitsOf goes on with the sums, modulo 2, of bits at the taps.
func bitsOf(taps ...int) []int {
	bits := []int{1, 0, 0, 0, 0}
	for n := 0; n+5 < 100; n++ {
		next := 0
		for _, tap := range taps {
			next += bits[n+tap]
		}
		bits = append(bits, next%2)
	}
	return bits
}

// sequences is of all identities, by their bits.
func sequences() [][]int {
	a, b := bitsOf(2, 0), bitsOf(4, 3, 2, 0)
	var l [][]int
	for group := range 336 {
		for sector := range 3 {
			var sequence []int
			for n := range 31 {
				sequence = append(sequence, 1-2*a[(n+10*sector)%31])
			}
			for n := range 31 {
				sequence = append(sequence, 1-2*(a[(n+group%31)%31]^b[(n+group/31)%31]))
			}
			l = append(l, sequence)
		}
	}
	return l
}

func correlationOf(a, x []int) int {
	c := 0
	for i := range 62 {
		c += a[i] * x[i]
	}
	return c
}

// foundAt looks at all identities.
func foundAt(all [][]int, x []int, at int) api.WaveFound {
	best := api.WaveFound{At: at, Correlation: math.MinInt}
	for identity, sequence := range all {
		if c := correlationOf(sequence, x[at:]); c > best.Correlation {
			best.Identity, best.Correlation = identity, c
		}
	}
	return best
}

// found looks at all places.
func found(all [][]int, x []int) api.WaveFound {
	best := api.WaveFound{Correlation: math.MinInt}
	for at := 0; at+62 <= len(x); at++ {
		if f := foundAt(all, x, at); f.Correlation > best.Correlation {
			best = f
		}
	}
	return best
}

// TestCellExamples is the example 6 of the chapter.
func TestCellExamples(t *testing.T) {
	s, e := wave.Shifts(100)
	expect(t, "Shifts(100)", s, e, [3]int{10, 2, 1}, api.OK)
	l, e := wave.SequenceOf(0)
	expect(t, "SequenceOf(0)", l[:9], e, []int{-1, 1, 1, 1, 1, -1, 1, 1, -1}, api.OK)
	expect(t, "SequenceOf(0), its second half", l[31:33], e, []int{1, 1}, api.OK)
	c, e := wave.CorrelationOf(0, l)
	expect(t, "CorrelationOf(0)", c, e, 62, api.OK)
	c, e = wave.CorrelationOf(1, l)
	expect(t, "CorrelationOf(1)", c, e, 30, api.OK)
}

// TestSequences compares the shifts and sequences of all identities with their definitions.
func TestSequences(t *testing.T) {
	a, b := bitsOf(2, 0), bitsOf(4, 3, 2, 0)
	expect(t, "a repeats", a[31:100], api.OK, a[:69], api.OK)
	expect(t, "b repeats", b[31:100], api.OK, b[:69], api.OK)
	all := sequences()
	for identity, want := range all {
		s, e := wave.Shifts(identity)
		expect(t, "Shifts", s, e, [3]int{10 * (identity % 3), identity / 3 % 31, identity / 3 / 31}, api.OK)
		l, e := wave.SequenceOf(identity)
		expect(t, "SequenceOf", l, e, want, api.OK)
	}
	s, e := wave.Shifts(1007)
	expect(t, "Shifts(1007)", s, e, [3]int{20, 25, 10}, api.OK)
	s, e = wave.Shifts(92)
	expect(t, "Shifts(92)", s, e, [3]int{20, 30, 0}, api.OK)
	s, e = wave.Shifts(93)
	expect(t, "Shifts(93)", s, e, [3]int{0, 0, 1}, api.OK)
}

// TestSequencesAreApart is the first sentence of P4.12.
func TestSequencesAreApart(t *testing.T) {
	var l [][]int
	for identity := range 1008 {
		l = append(l, must(wave.SequenceOf(identity)))
	}
	for i, x := range l {
		for j := range i {
			first, second := 0, 0
			for n := range 31 {
				if x[n] != l[j][n] {
					first++
				}
				if x[31+n] != l[j][31+n] {
					second++
				}
			}
			if i/3 != j/3 && second < 11 || i/3 == j/3 && second != 0 {
				t.Fatalf("the second halves of %d and %d have %d unlike values", i, j, second)
			}
			if i%3 != j%3 && first != 16 || i%3 == j%3 && first != 0 {
				t.Fatalf("the first halves of %d and %d have %d unlike values", i, j, first)
			}
		}
	}
}

// TestIdentitiesWithErrors is the second sentence of P4.12.
func TestIdentitiesWithErrors(t *testing.T) {
	r := rand.New(rand.NewSource(13))
	for identity := 0; identity < 1008; identity += 1 + r.Intn(5) {
		size := 1 + r.Intn(80000)
		errors := (11*size - 1) / 62
		at := r.Intn(59)
		x := randomValues(r, 120, 100000)
		other := must(wave.SequenceOf(r.Intn(1008)))
		for n, value := range must(wave.SequenceOf(identity)) {
			by := errors * other[n] // the worst errors speak for another one
			if identity%2 == 0 {
				by = part(r, errors)
			}
			x[at+n] = size*value + by
		}
		f, e := wave.IdentityAt(x, at)
		if e != api.OK || f.Identity != identity || f.At != at {
			t.Errorf("IdentityAt: %v, error %d, want %d", f, e, identity)
		}
		expect(t, "the correlation", must(wave.CorrelationOf(identity, x[at:at+62])), api.OK, f.Correlation, api.OK)
	}
}

// TestFoundWhereItIs is P4.13.
func TestFoundWhereItIs(t *testing.T) {
	r := rand.New(rand.NewSource(14))
	for identity := 0; identity < 1008; identity += 1 + r.Intn(7) {
		for _, length := range []int{62, 63, 62 + r.Intn(59), 120} {
			x := make([]int, length)
			at := r.Intn(length - 61)
			size := []int{1, 1 + r.Intn(100), 100000}[r.Intn(3)]
			for n, value := range must(wave.SequenceOf(identity)) {
				x[at+n] = size * value
			}
			f, e := wave.Search(x)
			expect(t, "Search", f, e, api.WaveFound{At: at, Identity: identity, Correlation: 62 * size}, api.OK)
		}
	}
}

// TestIdentitiesAsDefined looks at all identities and places, of values among which the same correlation comes often, too.
func TestIdentitiesAsDefined(t *testing.T) {
	r := rand.New(rand.NewSource(15))
	all := sequences()
	for i := range 120 {
		x := make([]int, 62+r.Intn(59))
		for n := range x {
			switch {
			case i%4 == 0:
				x[n] = part(r, 100000)
			case i%4 == 1:
				x[n] = part(r, 1)
			case r.Intn(20) == 0: // most are 0
				x[n] = part(r, 1+i%4)
			}
		}
		identity, at := r.Intn(1008), r.Intn(len(x)-61)
		c, e := wave.CorrelationOf(identity, x[at:at+62])
		expect(t, "CorrelationOf", c, e, correlationOf(all[identity], x[at:]), api.OK)
		f, e := wave.IdentityAt(x, at)
		expect(t, "IdentityAt", f, e, foundAt(all, x, at), api.OK)
		f, e = wave.IdentityAt(x, len(x)-62)
		expect(t, "IdentityAt the last place", f, e, foundAt(all, x, len(x)-62), api.OK)
		if i%4 != 0 || i < 20 {
			f, e = wave.Search(x)
			expect(t, "Search", f, e, found(all, x), api.OK)
		}
	}
}

func TestSilence(t *testing.T) {
	f, e := wave.Search(make([]int, 120))
	expect(t, "Search in nothing", f, e, api.WaveFound{}, api.OK)
	f, e = wave.IdentityAt(make([]int, 120), 58)
	expect(t, "IdentityAt in nothing", f, e, api.WaveFound{At: 58}, api.OK)
	c, e := wave.CorrelationOf(7, make([]int, 62))
	expect(t, "CorrelationOf nothing", c, e, 0, api.OK)
	// two sequences: the first place counts
	x := slices.Concat(must(wave.SequenceOf(500)), make([]int, 58))
	copy(x[58:], must(wave.SequenceOf(3)))
	x[58], x[59], x[60], x[61] = 0, 0, 0, 0
	first := must(wave.IdentityAt(x, 0))
	last := must(wave.IdentityAt(x, 58))
	expect(t, "IdentityAt", []api.WaveFound{first, last}, api.OK, []api.WaveFound{{At: 0, Identity: 500, Correlation: 58}, {At: 58, Identity: 3, Correlation: 58}}, api.OK)
	f, e = wave.Search(x)
	expect(t, "Search", f, e, first, api.OK)
}

// TestBelowNothing is of values of which the greatest correlation of a half is below 0.
func TestBelowNothing(t *testing.T) {
	all := sequences()
	x := make([]int, 62)
	for n := range 31 { // the first halves of all sectors are far from it
		x[n] = -all[0][n] - all[1][n] - all[2][n]
	}
	f, e := wave.IdentityAt(x, 0)
	want := foundAt(all, x, 0)
	expect(t, "IdentityAt", f, e, want, api.OK)
	if want.Correlation >= 0 {
		t.Errorf("the greatest correlation is %d", want.Correlation)
	}
	f, e = wave.Search(x)
	expect(t, "Search", f, e, want, api.OK)
	f, e = wave.Search(slices.Concat(x, x[:40]))
	expect(t, "Search", f, e, found(all, slices.Concat(x, x[:40])), api.OK)
}
