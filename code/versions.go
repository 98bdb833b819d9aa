package code

import (
	"iter"

	"downtilt/api"
)

// placesOf ranges over what a version sends: the number of each bit that is sent, and its place in a buffer of that length.
func placesOf(version, length, count int) iter.Seq2[int, int] {
	return func(yield func(int, int) bool) {
		place := version * length / api.CodeVersions
		for sent := range count {
			if !yield(sent, place) {
				return
			}
			place = (place + 1) % length
		}
	}
}

// Hard returns the bits of which soft bits tell.
func Hard(soft []int) ([]int, api.Errno) {
	if e := sumsError(soft); e != api.OK {
		return nil, e
	}
	bits := make([]int, len(soft))
	for i, s := range soft {
		if s < 0 {
			bits[i] = 1
		}
	}
	return bits, api.OK
}

// Match returns so many bits of a version of a word.
func Match(word []int, version, count int) ([]int, api.Errno) {
	e := firstError(bitsError(word), versionError(version), countError(count))
	if e != api.OK {
		return nil, e
	}
	return matched(word, version, count), api.OK
}

func matched(word []int, version, count int) []int {
	bits := make([]int, count)
	for sent, place := range placesOf(version, len(word), count) {
		bits[sent] = word[place]
	}
	return bits
}

// Gathered returns the sums of the soft bits of a version that belong to each place.
func Gathered(soft []int, version, length int) ([]int, api.Errno) {
	e := firstError(softError(soft), versionError(version), lengthError(length))
	if e != api.OK {
		return nil, e
	}
	return gathered(soft, version, length), api.OK
}

func gathered(soft []int, version, length int) []int {
	sums := make([]int, length)
	for sent, place := range placesOf(version, length, len(soft)) {
		sums[place] += soft[sent]
	}
	return sums
}

// Combined returns the sums of both, place by place.
func Combined(a, b []int) ([]int, api.Errno) {
	e := firstError(
		sumsError(a),
		sumsError(b),
		unless(len(a) == len(b), api.ErrClash))
	if e != api.OK {
		return nil, e
	}
	sums := make([]int, len(a))
	for i := range sums {
		sums[i] = a[i] + b[i]
	}
	if !areWithin(sums, api.MaxCodeSum) {
		return nil, api.ErrLarge
	}
	return sums, api.OK
}
