package wave

import (
	"slices"

	"downtilt/api"
)

const (
	cycle      = 31 // values behind which the two sequences of bits repeat
	registers  = 5  // bits that the next one of these sequences is made of
	sectorStep = 10 // by how much sectors are shifted against one another
)

// Shifts returns the shifts of an identity.
func Shifts(identity int) ([3]int, api.Errno) {
	if e := identityError(identity); e != api.OK {
		return [3]int{}, e
	}
	return shiftsOf(identity), api.OK
}

// SequenceOf returns the sequence of an identity.
func SequenceOf(identity int) ([]int, api.Errno) {
	if e := identityError(identity); e != api.OK {
		return nil, e
	}
	return sequenceOf(identity), api.OK
}

// CorrelationOf returns the correlation of an identity and received values.
func CorrelationOf(identity int, x []int) (int, api.Errno) {
	e := firstError(
		identityError(identity),
		unless(len(x) == api.WaveSequence, api.ErrShape),
		receivedError(x))
	if e != api.OK {
		return 0, e
	}
	return correlation(sequenceOf(identity), x), api.OK
}

// IdentityAt returns the identity with the greatest correlation at a place.
func IdentityAt(x []int, at int) (api.WaveFound, api.Errno) {
	e := firstError(
		receivedError(x),
		unless(isWithin(at, 0, len(x)-api.WaveSequence), api.ErrMissing))
	if e != api.OK {
		return api.WaveFound{}, e
	}
	return allHalves().found(x, at), api.OK
}

// Search returns the identity with the greatest correlation at any place.
func Search(x []int) (api.WaveFound, api.Errno) {
	e := firstError(
		receivedError(x),
		unless(len(x) >= api.WaveSequence, api.ErrShape))
	if e != api.OK {
		return api.WaveFound{}, e
	}
	all := allHalves()
	best := all.found(x, 0)
	for at := 1; at <= len(x)-api.WaveSequence; at++ {
		if f := all.found(x, at); f.Correlation > best.Correlation {
			best = f
		}
	}
	return best, api.OK
}

func shiftsOf(identity int) [3]int {
	group, sector := identity/api.CellSectors, identity%api.CellSectors
	return [3]int{sectorStep * sector, group % cycle, group / cycle}
}

// signsOf is what the bits of a sequence stand for, each of which is the sum of the bits at the taps, modulo 2. What a sum stands for is the product of what its bits stand for.
func signsOf(taps ...int) [cycle]int {
	signs := [cycle]int{-1, 1, 1, 1, 1}
	for n := registers; n < cycle; n++ {
		signs[n] = 1
		for _, tap := range taps {
			signs[n] *= signs[n-registers+tap]
		}
	}
	return signs
}

// halves are of all sequences: the first half depends on the sector alone, the second one on the group.
type halves struct {
	first, second [][]int
}

func allHalves() halves {
	a, b := signsOf(2, 0), signsOf(4, 3, 2, 0)
	var all halves
	for sector := range api.CellSectors {
		all.first = append(all.first, firstHalf(a, shiftsOf(sector)))
	}
	for identity := 0; identity < api.MaxCell; identity += api.CellSectors {
		all.second = append(all.second, secondHalf(a, b, shiftsOf(identity)))
	}
	return all
}

func firstHalf(a [cycle]int, shifts [3]int) []int {
	half := make([]int, cycle)
	for n := range half {
		half[n] = a[(n+shifts[0])%cycle]
	}
	return half
}

func secondHalf(a, b [cycle]int, shifts [3]int) []int {
	half := make([]int, cycle)
	for n := range half {
		half[n] = a[(n+shifts[1])%cycle] * b[(n+shifts[2])%cycle]
	}
	return half
}

func sequenceOf(identity int) []int {
	a, b := signsOf(2, 0), signsOf(4, 3, 2, 0)
	shifts := shiftsOf(identity)
	return slices.Concat(firstHalf(a, shifts), secondHalf(a, b, shifts))
}

// found takes the best sector and the best group by themselves: of several identities with the greatest sum of both the least one has the least of each.
func (h halves) found(x []int, at int) api.WaveFound {
	middle := at + cycle
	sector, first := bestOf(h.first, x[at:middle])
	group, second := bestOf(h.second, x[middle:middle+cycle])
	return api.WaveFound{At: at, Identity: api.CellSectors*group + sector, Correlation: first + second}
}

// bestOf is the number of the first half with the greatest correlation, and this.
func bestOf(l [][]int, x []int) (int, int) {
	best, greatest := 0, correlation(l[0], x)
	for i, half := range l {
		if c := correlation(half, x); c > greatest {
			best, greatest = i, c
		}
	}
	return best, greatest
}

func correlation(signs, x []int) int {
	c := 0
	for i, sign := range signs {
		c += sign * x[i]
	}
	return c
}
