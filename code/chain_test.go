package code_test

import (
	"math/rand"
	"slices"
	"testing"

	"downtilt/api"
	"downtilt/code"
)

// smallChain sends one bit with a check of three, as a word of eight bits, twelve bits at once.
func smallChain() api.CodeChain {
	return api.CodeChain{Poly: cubic(), Polar: api.CodePolar{Power: 3, Info: []int{3, 5, 6, 7}}, Count: 12}
}

type chainArguments struct {
	c          api.CodeChain
	bits, soft []int
	version    int
}

func TestErrorsOfChains(t *testing.T) {
	fresh := func() chainArguments {
		return chainArguments{smallChain(), bitsOf("1"), []int{-1, 2, -3, 4, 5, -6, 7, -8}, 1}
	}
	all := func(rest ...[]spoil[chainArguments]) []spoil[chainArguments] {
		short := []wrong[[]int]{{[]int{7}, api.ErrShape}, {[]int{5, 6, 7}, api.ErrShape}}
		return append(slices.Concat(
			spoils("poly", wrongPolys(), func(a *chainArguments, p api.CodePoly) { a.c.Poly = p }),
			spoils("polar", wrongPolars(), func(a *chainArguments, p api.CodePolar) { a.c.Polar = p }),
			spoils("polar", short, func(a *chainArguments, l []int) { a.c.Polar.Info = l }),
			spoils("count", wrongCounts(), func(a *chainArguments, n int) { a.c.Count = n })),
			slices.Concat(rest...)...)
	}
	many := append(wrongBits(), wrong[[]int]{bitsOf("10"), api.ErrShape})
	bits := spoils("bits", many, func(a *chainArguments, b []int) { a.bits = b })
	versions := spoils("version", wrongVersions(), func(a *chainArguments, n int) { a.version = n })
	checkErrors(t, "Sent", fresh, func(a chainArguments) ([]int, api.Errno) { return code.Sent(a.c, a.bits, a.version) }, all(bits, versions))
	fresh = func() chainArguments {
		c := smallChain()
		c.Polar.Info = []int{0, 3, 5, 6, 7}
		return chainArguments{c: c, soft: slices.Repeat([]int{1}, 8)}
	}
	many = append(wrongSums(), wrong[[]int]{[]int{1, 2}, api.ErrShape}, wrong[[]int]{make([]int, 200), api.ErrShape})
	soft := spoils("soft", many, func(a *chainArguments, s []int) { a.soft = s })
	// one place of the wrong sign in front of a code that has the position 0
	sum := []spoil[chainArguments]{{"soft", func(a *chainArguments) { a.soft = []int{-9, 1, 1, 1, 1, 1, 1, 1} }, api.ErrSum}}
	checkErrors(t, "Recovered", fresh, func(a chainArguments) ([]int, api.Errno) { return code.Recovered(a.c, a.soft) }, all(soft, sum))
}

func TestChainExample(t *testing.T) {
	// 1 with its check is 1011: at 3, 6, 7; the word by its halves 0001, 0011: 0001 is 1111, 0011 is 0101: 1010 0101
	for version, want := range []string{"101001011010", "100101101001", "010110100101", "011010010110"} {
		sent, e := code.Sent(smallChain(), bitsOf("1"), version)
		expect(t, "Sent", sent, e, bitsOf(want), api.OK)
	}
	bits, e := code.Recovered(smallChain(), []int{-1, 2, -3, 4, 5, -6, 7, -1000000000})
	expect(t, "Recovered", bits, e, bitsOf("1"), api.OK)
	bits, e = code.Recovered(smallChain(), make([]int, 8))
	expect(t, "Recovered of nothing", bits, e, bitsOf("0"), api.OK)
}

func randomChain(r *rand.Rand) api.CodeChain {
	power := 1 + r.Intn(6)
	degree := 1 + r.Intn(min(16, 1<<power-1))
	count := degree + 1 + r.Intn(1<<power-degree)
	return api.CodeChain{Poly: randomPoly(r, degree), Polar: randomPolar(r, power, count), Count: 1 + r.Intn(400)}
}

// TestSentAsTold makes what a chain sends by the other functions.
func TestSentAsTold(t *testing.T) {
	r := rand.New(rand.NewSource(11))
	for range 1000 {
		c := randomChain(r)
		bits := randomBits(r, len(c.Polar.Info)-c.Poly.Degree)
		version := r.Intn(4)
		word := must(code.Encode(c.Polar, must(code.Checked(c.Poly, bits))))
		sent, e := code.Sent(c, bits, version)
		expect(t, "Sent", sent, e, must(code.Match(word, version, c.Count)), api.OK)
		soft := randomSoft(r, len(word), 3)
		found := must(code.Decode(c.Polar, soft))
		var want []int
		f := api.ErrSum
		if slices.Equal(divided(c.Poly, found[:len(bits)]), found[len(bits):]) {
			want, f = found[:len(bits)], api.OK
		}
		bits, e = code.Recovered(c, soft)
		expect(t, "Recovered", bits, e, want, f)
	}
}

// TestRecovered is P2.11: versions are sent until each place was, with soft bits of any sizes.
func TestRecovered(t *testing.T) {
	r := rand.New(rand.NewSource(12))
	for range 1000 {
		c := randomChain(r)
		length := 1 << c.Polar.Power
		bits := randomBits(r, len(c.Polar.Info)-c.Poly.Degree)
		b := must(code.Begin(length, 1))
		most := []int{1, 5, 1000000}[r.Intn(3)]
		for slices.Contains(b.Processes[0].Soft, 0) {
			version := r.Intn(4)
			if 4*c.Count < length {
				c.Count = length // else some places would never be sent
			}
			soft := softOf(r, must(code.Sent(c, bits, version)), most)
			b = must(code.Receive(b, api.CodeReceived{Version: version, Soft: soft}))
		}
		found, e := code.Recovered(c, b.Processes[0].Soft)
		expect(t, "Recovered", found, e, bits, api.OK)
	}
	// sums of the greatest sizes
	c := api.CodeChain{Poly: randomPoly(r, 16), Polar: randomPolar(r, 6, 64), Count: 64}
	bits := randomBits(r, 48)
	var sums []int
	for _, b := range must(code.Sent(c, bits, 0)) {
		sums = append(sums, 1000000000*(1-2*b))
	}
	found, e := code.Recovered(c, sums)
	expect(t, "Recovered of the greatest sums", found, e, bits, api.OK)
}
