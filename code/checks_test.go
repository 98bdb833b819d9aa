package code_test

import (
	"math/rand"
	"slices"
	"testing"

	"downtilt/api"
	"downtilt/code"
)

// cubic is the polynomial of the chapter's examples.
func cubic() api.CodePoly {
	return api.CodePoly{Degree: 3, Taps: 3}
}

func TestCheckPoly(t *testing.T) {
	for _, w := range wrongPolys() {
		if e := code.CheckPoly(w.x); e != w.e {
			t.Errorf("CheckPoly(%v): %d, want %d", w.x, e, w.e)
		}
	}
	for _, p := range []api.CodePoly{cubic(), {Degree: 1, Taps: 1}, {Degree: 2, Taps: 1}, {Degree: 2, Taps: 3}, {Degree: 16, Taps: 1}, {Degree: 16, Taps: 65535}} {
		if e := code.CheckPoly(p); e != api.OK {
			t.Errorf("CheckPoly(%v): %d", p, e)
		}
	}
}

type checkArguments struct {
	p    api.CodePoly
	bits []int
}

func TestErrorsOfChecks(t *testing.T) {
	fresh := func() checkArguments { return checkArguments{cubic(), bitsOf("1011")} }
	polys := spoils("poly", wrongPolys(), func(a *checkArguments, p api.CodePoly) { a.p = p })
	bits := spoils("bits", wrongBits(), func(a *checkArguments, b []int) { a.bits = b })
	short := []spoil[checkArguments]{{"bits", func(a *checkArguments) { a.bits = bitsOf("000") }, api.ErrShape}}
	checkErrors(t, "Remainder", fresh, func(a checkArguments) ([]int, api.Errno) { return code.Remainder(a.p, a.bits) }, polys, bits)
	checkErrors(t, "Checked", fresh, func(a checkArguments) ([]int, api.Errno) { return code.Checked(a.p, a.bits) }, polys, bits)
	checkErrors(t, "IsRight", fresh, func(a checkArguments) (bool, api.Errno) { return code.IsRight(a.p, a.bits) }, polys, bits, short)
	// what is no bit comes before what is too short
	_, e := code.IsRight(cubic(), []int{0, 2})
	expect(t, "IsRight of two", 0, e, 0, api.ErrKind)
}

func TestRemainderExamples(t *testing.T) {
	for _, x := range []struct {
		p          api.CodePoly
		bits, rest string
	}{
		{cubic(), "1011", "000"},
		{cubic(), "1", "011"},
		{cubic(), "010", "110"},
		{cubic(), "110", "001"},
		{cubic(), "0", "000"},
		{cubic(), "01", "011"},
		{api.CodePoly{Degree: 1, Taps: 1}, "1", "1"},
		{api.CodePoly{Degree: 1, Taps: 1}, "1011", "1"},
		{api.CodePoly{Degree: 1, Taps: 1}, "1001", "0"},
		{api.CodePoly{Degree: 16, Taps: 1}, "1", "0000000000000001"},
		{api.CodePoly{Degree: 16, Taps: 65535}, "1", "1111111111111111"},
	} {
		rest, e := code.Remainder(x.p, bitsOf(x.bits))
		expect(t, "Remainder of "+x.bits, rest, e, bitsOf(x.rest), api.OK)
		with, e := code.Checked(x.p, bitsOf(x.bits))
		expect(t, "Checked of "+x.bits, with, e, bitsOf(x.bits+x.rest), api.OK)
		right, e := code.IsRight(x.p, bitsOf(x.bits+x.rest))
		expect(t, "IsRight of "+x.bits, right, e, true, api.OK)
	}
}

// divided is the remainder by a division of lists of coefficients.
func divided(p api.CodePoly, bits []int) []int {
	divisor := []int{1}
	for k := p.Degree - 1; k >= 0; k-- {
		divisor = append(divisor, p.Taps>>k&1)
	}
	left := append(slices.Clone(bits), make([]int, p.Degree)...)
	for i := range bits {
		if left[i] == 1 {
			for k, d := range divisor {
				left[i+k] ^= d
			}
		}
	}
	return left[len(bits):]
}

func TestRemainderDivides(t *testing.T) {
	r := rand.New(rand.NewSource(1))
	for range 2000 {
		p := randomPoly(r, 1+r.Intn(16))
		bits := randomBits(r, 1+r.Intn(200))
		rest, e := code.Remainder(p, bits)
		expect(t, "Remainder", rest, e, divided(p, bits), api.OK)
		with, e := code.Checked(p, bits)
		expect(t, "Checked", with, e, append(slices.Clone(bits), divided(p, bits)...), api.OK)
	}
}

// TestChangedBitsAreNotRight is P2.9, for all polynomials of small degrees and some of all.
func TestChangedBitsAreNotRight(t *testing.T) {
	r := rand.New(rand.NewSource(2))
	for degree := 1; degree <= 5; degree++ {
		for taps := 1; taps < 1<<degree; taps += 2 {
			p := api.CodePoly{Degree: degree, Taps: taps}
			with := must(code.Checked(p, randomBits(r, 9)))
			expectRight(t, p, with, true)
			for from := range len(with) - degree + 1 {
				for change := 1; change < 1<<degree; change++ {
					expectRight(t, p, changed(with, from, numbered(change, degree)), false)
				}
			}
		}
	}
	for range 3000 {
		p := randomPoly(r, 1+r.Intn(16))
		with := must(code.Checked(p, randomBits(r, 1+r.Intn(180))))
		expectRight(t, p, with, true)
		some := randomBits(r, p.Degree)
		some[r.Intn(p.Degree)] = 1
		expectRight(t, p, changed(with, r.Intn(len(with)-p.Degree+1), some), false)
	}
}

func expectRight(t *testing.T, p api.CodePoly, bits []int, want bool) {
	t.Helper()
	right, e := code.IsRight(p, bits)
	if right != want || e != api.OK {
		t.Fatalf("IsRight(%v, %v): %v, %d", p, bits, right, e)
	}
}

// changed is the bits with some from a place on changed.
func changed(bits []int, from int, some []int) []int {
	l := slices.Clone(bits)
	for i, b := range some {
		l[from+i] ^= b
	}
	return l
}
