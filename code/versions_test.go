package code_test

import (
	"math/rand"
	"slices"
	"testing"

	"downtilt/api"
	"downtilt/code"
)

type versionArguments struct {
	word, soft, sums, others []int
	version, count, length   int
}

func TestErrorsOfVersions(t *testing.T) {
	fresh := func() versionArguments {
		return versionArguments{bitsOf("00111"), []int{1, 2}, []int{3, 4}, []int{5, 6}, 1, 7, 5}
	}
	words := spoils("word", wrongBits(), func(a *versionArguments, b []int) { a.word = b })
	soft := spoils("soft", wrongSoft(), func(a *versionArguments, s []int) { a.soft = s })
	sums := spoils("sums", wrongSums(), func(a *versionArguments, s []int) { a.sums = s })
	others := spoils("others", wrongSums(), func(a *versionArguments, s []int) { a.others = s })
	versions := spoils("version", wrongVersions(), func(a *versionArguments, n int) { a.version = n })
	counts := spoils("count", wrongCounts(), func(a *versionArguments, n int) { a.count = n })
	lengths := spoils("length", wrongLengths(), func(a *versionArguments, n int) { a.length = n })
	// what is too large comes behind what does not go together
	apart := []spoil[versionArguments]{
		{"sums", func(a *versionArguments) { a.sums = []int{1000000000, 1, 1} }, api.ErrClash},
		{"both", func(a *versionArguments) { a.sums, a.others = []int{5, 1000000000}, []int{5, 1} }, api.ErrLarge},
		{"both", func(a *versionArguments) { a.sums, a.others = []int{-1, 0}, []int{-1000000000, 0} }, api.ErrLarge},
	}
	checkErrors(t, "Hard", fresh, func(a versionArguments) ([]int, api.Errno) { return code.Hard(a.sums) }, sums)
	checkErrors(t, "Match", fresh, func(a versionArguments) ([]int, api.Errno) { return code.Match(a.word, a.version, a.count) }, words, versions, counts)
	checkErrors(t, "Gathered", fresh, func(a versionArguments) ([]int, api.Errno) { return code.Gathered(a.soft, a.version, a.length) }, soft, versions, lengths)
	checkErrors(t, "Combined", fresh, func(a versionArguments) ([]int, api.Errno) { return code.Combined(a.sums, a.others) }, sums, others, apart[:1])
	checkErrors(t, "Combined of large sums", fresh, func(a versionArguments) ([]int, api.Errno) { return code.Combined(a.sums, a.others) }, apart[1:])
}

func TestVersionsExamples(t *testing.T) {
	word, e := code.Match(bitsOf("00111"), 1, 7)
	expect(t, "Match", word, e, bitsOf("0111001"), api.OK)
	sums, e := code.Gathered([]int{1, 2, 3, 4, 5, 6, 7}, 1, 5)
	expect(t, "Gathered", sums, e, []int{5, 1 + 6, 2 + 7, 3, 4}, api.OK)
	sums, e = code.Gathered([]int{1, 2}, 3, 5)
	expect(t, "Gathered of two", sums, e, []int{0, 0, 0, 1, 2}, api.OK)
	// all versions of a short buffer begin at one place
	for version := range 4 {
		word, e = code.Match(bitsOf("1"), version, 3)
		expect(t, "Match of one bit", word, e, bitsOf("111"), api.OK)
		sums, e = code.Gathered([]int{1, -2, 3}, version, 1)
		expect(t, "Gathered in one", sums, e, []int{2}, api.OK)
		word, e = code.Match(bitsOf("01"), version, 1)
		expect(t, "Match of two bits", word, e, bitsOf([]string{"0", "0", "1", "1"}[version]), api.OK)
	}
	bits, e := code.Hard([]int{3, 0, -1, 1000000000, -1000000000})
	expect(t, "Hard", bits, e, bitsOf("00101"), api.OK)
	sums, e = code.Combined([]int{1, -2, 999999999, -999999999}, []int{10, 2, 1, -1})
	expect(t, "Combined", sums, e, []int{11, 0, 1000000000, -1000000000}, api.OK)
	sums, e = code.Combined([]int{1000000000}, []int{-1000000000})
	expect(t, "Combined of both ends", sums, e, []int{0}, api.OK)
	sums, e = code.Gathered(slices.Repeat([]int{-1000000}, 400), 2, 1)
	expect(t, "Gathered of the most", sums, e, []int{-400000000}, api.OK)
}

func TestVersionsAsDefined(t *testing.T) {
	r := rand.New(rand.NewSource(9))
	for length := 1; length <= 200; length++ {
		for version := range 4 {
			from := version * length / 4
			word := randomBits(r, length)
			soft := randomSoft(r, 1+r.Intn(400), 1000000)
			var sent []int
			want := make([]int, length)
			for i, s := range soft {
				sent = append(sent, word[(from+i)%length])
				want[(from+i)%length] += s
			}
			bits, e := code.Match(word, version, len(soft))
			expect(t, "Match", bits, e, sent, api.OK)
			sums, e := code.Gathered(soft, version, length)
			expect(t, "Gathered", sums, e, want, api.OK)
		}
	}
}
