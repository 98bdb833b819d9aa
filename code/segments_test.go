package code_test

import (
	"math"
	"math/rand"
	"slices"
	"testing"

	"downtilt/api"
	"downtilt/code"
)

func seven() api.CodeRule {
	return api.CodeRule{Poly: cubic(), Most: 7}
}

func wrongRules() []wrong[api.CodeRule] {
	var l []wrong[api.CodeRule]
	for _, w := range wrongPolys() {
		l = append(l, wrong[api.CodeRule]{api.CodeRule{Poly: w.x, Most: 0}, w.e})
	}
	for _, most := range []int{3, 0, -1, 101, math.MinInt, math.MaxInt} {
		l = append(l, wrong[api.CodeRule]{api.CodeRule{Poly: cubic(), Most: most}, api.ErrRange})
	}
	return l
}

type segmentArguments struct {
	r      api.CodeRule
	bits   []int
	parts  [][]int
	length int
}

func rightSegments() segmentArguments {
	return segmentArguments{seven(), bitsOf("10110"), [][]int{bitsOf("010110"), bitsOf("110001")}, 5}
}

func TestErrorsOfSegments(t *testing.T) {
	rules := spoils("rule", wrongRules(), func(a *segmentArguments, r api.CodeRule) { a.r = r })
	bits := spoils("bits", wrongBits(), func(a *segmentArguments, b []int) { a.bits = b })
	checkErrors(t, "Segments", rightSegments, func(a segmentArguments) ([][]int, api.Errno) { return code.Segments(a.r, a.bits) }, rules, bits)
	lengths := spoils("length", wrongLengths(), func(a *segmentArguments, n int) { a.length = n })
	parts := spoils("parts", wrongParts(), func(a *segmentArguments, p [][]int) { a.parts = p })
	checkErrors(t, "Joined", rightSegments, func(a segmentArguments) (pair[[]int, int], api.Errno) {
		return both(code.Joined(a.r, a.parts, a.length))
	}, rules, lengths, parts)
}

// wrongParts are segments of which no error names another number than 0.
func wrongParts() []wrong[[][]int] {
	fine := bitsOf("110001")
	return []wrong[[][]int]{
		{nil, api.ErrShape},
		{[][]int{bitsOf("010110")}, api.ErrShape},
		{[][]int{bitsOf("010110"), fine, fine}, api.ErrShape},
		{[][]int{nil, fine}, api.ErrShape},
		{[][]int{bitsOf("01011"), {2}}, api.ErrShape},
		{[][]int{bitsOf("0101100"), fine}, api.ErrShape},
		{[][]int{{2, 1, 0, 1, 1}, fine}, api.ErrShape},
		{[][]int{{0, 1, 0, 1, 1, 2}, nil}, api.ErrKind},
		{[][]int{{-1, 1, 0, 1, 1, 0}, fine}, api.ErrKind},
		{[][]int{bitsOf("010111"), {2}}, api.ErrSum},
		{[][]int{bitsOf("110001"), fine}, api.ErrForm},
	}
}

func TestErrorsOfLaterSegments(t *testing.T) {
	first := bitsOf("010110")
	for i, x := range []struct {
		parts [][]int
		n     int
		e     api.Errno
	}{
		{[][]int{first, bitsOf("110001")}, 0, api.OK},
		{[][]int{first, nil}, 1, api.ErrShape},
		{[][]int{first, bitsOf("11000")}, 1, api.ErrShape},
		{[][]int{first, {1, 1, 0, 0, 0, 2}}, 1, api.ErrKind},
		{[][]int{first, bitsOf("110000")}, 1, api.ErrSum},
		// a filler that is 1 comes behind all other errors
		{[][]int{bitsOf("110001"), bitsOf("110000")}, 1, api.ErrSum},
		{[][]int{bitsOf("110001"), bitsOf("110001")}, 0, api.ErrForm},
		// the error of the first segment that has one
		{[][]int{bitsOf("010111"), nil}, 0, api.ErrSum},
	} {
		bits, n, e := code.Joined(seven(), x.parts, 5)
		if n != x.n || e != x.e || e != api.OK && len(bits) > 0 {
			t.Errorf("case %d: %v, %d, %d, want %d, %d", i, bits, n, e, x.n, x.e)
		}
	}
}

func TestSegmentsExamples(t *testing.T) {
	for _, x := range []struct {
		r     api.CodeRule
		bits  string
		parts []string
	}{
		{seven(), "10110", []string{"010110", "110001"}},
		{seven(), "1011", []string{"1011000"}},
		{seven(), "1", []string{"1011"}},
		{seven(), "10111011", []string{"1011000", "1011000"}},
		{api.CodeRule{Poly: cubic(), Most: 4}, "101", []string{"1011", "0000", "1011"}},
		{api.CodeRule{Poly: cubic(), Most: 6}, "1111", []string{"11101", "11101"}},
		// two fillers
		{api.CodeRule{Poly: api.CodePoly{Degree: 1, Taps: 1}, Most: 4}, "1010101", []string{"0011", "0101", "1010"}},
	} {
		var parts [][]int
		for _, s := range x.parts {
			parts = append(parts, bitsOf(s))
		}
		l, e := code.Segments(x.r, bitsOf(x.bits))
		expect(t, "Segments of "+x.bits, l, e, parts, api.OK)
		bits, n, e := code.Joined(x.r, parts, len(x.bits))
		expect(t, "Joined to "+x.bits, pair[[]int, int]{bits, n}, e, pair[[]int, int]{bitsOf(x.bits), 0}, api.OK)
	}
}

// cutSlowly looks for the least number of segments, and then for their least length ahead of the check.
func cutSlowly(r api.CodeRule, length int) (count, ahead int) {
	if length+r.Poly.Degree <= r.Most {
		return 1, length
	}
	for count = 1; ; count++ {
		for ahead = 1; ahead <= r.Most-r.Poly.Degree; ahead++ {
			if count*ahead >= length {
				return count, ahead
			}
		}
	}
}

// TestSegmentsBack is P2.10, for each length and rules of all kinds.
func TestSegmentsBack(t *testing.T) {
	r := rand.New(rand.NewSource(3))
	for length := 1; length <= 200; length++ {
		for range 12 {
			p := randomPoly(r, 1+r.Intn(16))
			rule := api.CodeRule{Poly: p, Most: p.Degree + 1 + r.Intn(min(100-p.Degree, 1+r.Intn(100)))}
			bits := randomBits(r, length)
			parts, e := code.Segments(rule, bits)
			expectSegments(t, rule, bits, parts, e)
			back, n, e := code.Joined(rule, parts, length)
			expect(t, "Joined", pair[[]int, int]{back, n}, e, pair[[]int, int]{bits, 0}, api.OK)
		}
	}
}

func expectSegments(t *testing.T, rule api.CodeRule, bits []int, parts [][]int, e api.Errno) {
	t.Helper()
	count, ahead := cutSlowly(rule, len(bits))
	fillers := count*ahead - len(bits)
	filled := append(make([]int, fillers), bits...)
	var want [][]int
	for i := range count {
		part := filled[i*ahead : (i+1)*ahead]
		want = append(want, append(slices.Clone(part), divided(rule.Poly, part)...))
	}
	if fillers >= count || ahead+rule.Poly.Degree > rule.Most {
		t.Fatalf("%v cuts %d bits into %d of %d", rule, len(bits), count, ahead)
	}
	expect(t, "Segments", parts, e, want, api.OK)
}
