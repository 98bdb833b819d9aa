package code

import (
	"slices"

	"downtilt/api"
)

// cut is how a block is cut into segments.
type cut struct {
	count   int // of segments
	ahead   int // bits of a segment ahead of its check
	fillers int
}

// cutOf is how a rule cuts a block of that length.
func cutOf(r api.CodeRule, length int) cut {
	count := dividedUp(length, r.Most-r.Poly.Degree)
	ahead := dividedUp(length, count)
	return cut{count, ahead, count*ahead - length}
}

func dividedUp(a, b int) int {
	return (a + b - 1) / b
}

// ruleError is the first error of a rule.
func ruleError(r api.CodeRule) api.Errno {
	return firstError(
		CheckPoly(r.Poly),
		unless(isWithin(r.Most, r.Poly.Degree+1, api.MaxCodePart), api.ErrRange))
}

// Segments returns the segments of a block.
func Segments(r api.CodeRule, bits []int) ([][]int, api.Errno) {
	if e := firstError(ruleError(r), bitsError(bits)); e != api.OK {
		return nil, e
	}
	c := cutOf(r, len(bits))
	filled := append(make([]int, c.fillers), bits...)
	var parts [][]int
	for part := range slices.Chunk(filled, c.ahead) {
		parts = append(parts, checked(r.Poly, part))
	}
	return parts, api.OK
}

// Joined returns the block of that length with these segments, and beside an error the segment that has it.
func Joined(r api.CodeRule, parts [][]int, length int) ([]int, int, api.Errno) {
	if e := firstError(ruleError(r), lengthError(length)); e != api.OK {
		return nil, 0, e
	}
	c := cutOf(r, length)
	if len(parts) != c.count {
		return nil, 0, api.ErrShape
	}
	var filled []int
	for i, part := range parts {
		if e := segmentError(r.Poly, part, c.ahead); e != api.OK {
			return nil, i, e
		}
		filled = append(filled, part[:c.ahead]...)
	}
	if slices.Contains(filled[:c.fillers], 1) {
		return nil, 0, api.ErrForm
	}
	return filled[c.fillers:], 0, api.OK
}

// segmentError is the first error of a segment with so many bits ahead of its check.
func segmentError(p api.CodePoly, part []int, ahead int) api.Errno {
	switch {
	case len(part) != ahead+p.Degree:
		return api.ErrShape
	case !areBits(part):
		return api.ErrKind
	case !isRight(p, part):
		return api.ErrSum
	}
	return api.OK
}
