package code_test

import (
	"math"
	"math/rand"
	"reflect"
	"slices"
	"strings"
	"testing"

	"downtilt/api"
)

// same compares results; a nil list and an empty one are the same, also within other lists.
func same(a, b any) bool {
	return alike(reflect.ValueOf(a), reflect.ValueOf(b))
}

func alike(a, b reflect.Value) bool {
	if !a.IsValid() || !b.IsValid() || a.Type() != b.Type() {
		return a.IsValid() == b.IsValid() && !a.IsValid()
	}
	switch a.Kind() {
	case reflect.Interface:
		return alike(a.Elem(), b.Elem())
	case reflect.Slice:
		if a.Len() != b.Len() {
			return false
		}
		for i := range a.Len() {
			if !alike(a.Index(i), b.Index(i)) {
				return false
			}
		}
		return true
	case reflect.Struct:
		for i := range a.NumField() {
			if !alike(a.Field(i), b.Field(i)) {
				return false
			}
		}
		return true
	}
	return a.Equal(b)
}

// expect compares a result and its error with what they should be.
func expect(t *testing.T, what string, got any, e api.Errno, want any, f api.Errno) {
	t.Helper()
	if !same(got, want) || e != f {
		t.Errorf("%s: %v, error %d; want %v, error %d", what, got, e, want, f)
	}
}

// must returns a result whose error is none.
func must[T any](x T, e api.Errno) T {
	if e != api.OK {
		panic(e)
	}
	return x
}

// both puts two results before an error into one.
func both[A, B any](a A, b B, e api.Errno) (pair[A, B], api.Errno) {
	return pair[A, B]{a, b}, e
}

type pair[A, B any] struct {
	A A
	B B
}

// bitsOf writes bits as a text, without the package's own function.
func bitsOf(s string) []int {
	var l []int
	for _, r := range s {
		l = append(l, strings.IndexRune("01", r))
	}
	return l
}

// wrong is a value that is not right, and its error.
type wrong[X any] struct {
	x X
	e api.Errno
}

// spoil is a change that makes arguments wrong: which argument it touches, and the error of that.
type spoil[T any] struct {
	touches string
	change  func(*T)
	e       api.Errno
}

// spoils makes changes of one argument.
func spoils[T, X any](touches string, all []wrong[X], set func(*T, X)) []spoil[T] {
	var l []spoil[T]
	for _, w := range all {
		l = append(l, spoil[T]{touches, func(a *T) { set(a, w.x) }, w.e})
	}
	return l
}

// checkErrors makes right arguments wrong by each spoil, and by each two that touch different ones: the error of the earlier one comes, and beside it nothing.
func checkErrors[T, R any](t *testing.T, what string, fresh func() T, call func(T) (R, api.Errno), all ...[]spoil[T]) {
	t.Helper()
	if _, e := call(fresh()); e != api.OK {
		t.Fatalf("%s of right arguments: error %d", what, e)
	}
	var none R
	list := slices.Concat(all...)
	for i, x := range list {
		for j, y := range list[i:] {
			if j > 0 && x.touches == y.touches {
				continue
			}
			a := fresh()
			y.change(&a)
			x.change(&a)
			r, e := call(a)
			if !same(r, none) || e != x.e {
				t.Errorf("%s, spoils %d (%s) and %d (%s): %v, error %d, want error %d", what, i, x.touches, i+j, y.touches, r, e, x.e)
			}
		}
	}
}

func wrongBits() []wrong[[]int] {
	return []wrong[[]int]{
		{nil, api.ErrShape},
		{[]int{}, api.ErrShape},
		{make([]int, 201), api.ErrLarge},
		{slices.Repeat([]int{2}, 201), api.ErrLarge},
		{[]int{0, 1, 2}, api.ErrKind},
		{[]int{-1}, api.ErrKind},
		{append(make([]int, 199), math.MinInt), api.ErrKind},
	}
}

func wrongSoft() []wrong[[]int] {
	return wrongNumbers(400, 1000000)
}

func wrongSums() []wrong[[]int] {
	return wrongNumbers(200, 1000000000)
}

func wrongNumbers(count, size int) []wrong[[]int] {
	return []wrong[[]int]{
		{nil, api.ErrShape},
		{make([]int, count+1), api.ErrLarge},
		{slices.Repeat([]int{size + 1}, count+1), api.ErrLarge},
		{[]int{size, size + 1}, api.ErrRange},
		{[]int{-size, -size - 1}, api.ErrRange},
		{[]int{math.MaxInt}, api.ErrRange},
		{append(make([]int, count-1), math.MinInt), api.ErrRange},
	}
}

func wrongPolys() []wrong[api.CodePoly] {
	return []wrong[api.CodePoly]{
		{api.CodePoly{}, api.ErrRange},
		{api.CodePoly{Degree: 0, Taps: 1}, api.ErrRange},
		{api.CodePoly{Degree: -1, Taps: 2}, api.ErrRange},
		{api.CodePoly{Degree: 17, Taps: 3}, api.ErrRange},
		{api.CodePoly{Degree: 63, Taps: 3}, api.ErrRange},
		{api.CodePoly{Degree: math.MinInt, Taps: 3}, api.ErrRange},
		{api.CodePoly{Degree: math.MaxInt, Taps: 3}, api.ErrRange},
		{api.CodePoly{Degree: 3, Taps: 0}, api.ErrRange},
		{api.CodePoly{Degree: 3, Taps: -1}, api.ErrRange},
		{api.CodePoly{Degree: 3, Taps: -2}, api.ErrRange},
		{api.CodePoly{Degree: 3, Taps: 8}, api.ErrRange},
		{api.CodePoly{Degree: 3, Taps: 9}, api.ErrRange},
		{api.CodePoly{Degree: 16, Taps: 65536}, api.ErrRange},
		{api.CodePoly{Degree: 1, Taps: 2}, api.ErrRange},
		{api.CodePoly{Degree: 3, Taps: 2}, api.ErrForm},
		{api.CodePoly{Degree: 3, Taps: 6}, api.ErrForm},
		{api.CodePoly{Degree: 16, Taps: 65534}, api.ErrForm},
	}
}

func wrongPolars() []wrong[api.CodePolar] {
	return []wrong[api.CodePolar]{
		{api.CodePolar{Power: -1}, api.ErrRange},
		{api.CodePolar{Power: 7, Info: []int{1}}, api.ErrRange},
		{api.CodePolar{Power: math.MaxInt, Info: []int{1}}, api.ErrRange},
		{api.CodePolar{Power: math.MinInt, Info: []int{1}}, api.ErrRange},
		{api.CodePolar{Power: 2}, api.ErrShape},
		{api.CodePolar{Power: 2, Info: []int{-1, 0}}, api.ErrRange},
		{api.CodePolar{Power: 2, Info: []int{0, 4}}, api.ErrRange},
		{api.CodePolar{Power: 0, Info: []int{1}}, api.ErrRange},
		{api.CodePolar{Power: 6, Info: []int{63, 64}}, api.ErrRange},
		{api.CodePolar{Power: 2, Info: []int{3, 4, 1}}, api.ErrRange},
		{api.CodePolar{Power: 2, Info: []int{3, 1, 4}}, api.ErrOrder},
		{api.CodePolar{Power: 2, Info: []int{1, 1}}, api.ErrOrder},
		{api.CodePolar{Power: 2, Info: []int{0, 1, 2, 3, 3}}, api.ErrOrder},
	}
}

// wrongParity is a parity-check code that is not right, and the row that CheckParity names.
type wrongParity struct {
	c   api.CodeParity
	row int
	e   api.Errno
}

func wrongParities() []wrongParity {
	rows := func(r ...[]int) api.CodeParity { return api.CodeParity{Info: 2, Rows: r} }
	fine := []int{0, 1, 2}
	return []wrongParity{
		{api.CodeParity{Info: 0}, 0, api.ErrRange},
		{api.CodeParity{Info: 41, Rows: [][]int{{0}}}, 0, api.ErrRange},
		{api.CodeParity{Info: math.MinInt}, 0, api.ErrRange},
		{api.CodeParity{Info: math.MaxInt, Rows: [][]int{{0}}}, 0, api.ErrRange},
		{api.CodeParity{Info: 2}, 0, api.ErrShape},
		{api.CodeParity{Info: 2, Rows: make([][]int, 21)}, 0, api.ErrLarge},
		{api.CodeParity{Info: 2, Rows: make([][]int, 20)}, 0, api.ErrShape},
		{rows(fine, nil, []int{9}), 1, api.ErrShape},
		{rows(fine, []int{3}), 1, api.ErrShape},
		{rows(fine, []int{-1}), 1, api.ErrShape},
		{rows(fine, []int{-1, 0, 1, 2, 3, 4, 5, 6, 7}), 1, api.ErrLarge},
		{rows([]int{0, 1, 2, 3, 4, 5, 6, 7}), 0, api.ErrRange},
		{rows(fine, []int{-1, 3}), 1, api.ErrRange},
		{rows(fine, []int{0, 4}), 1, api.ErrRange},
		{rows(fine, []int{2, 4, 1}), 1, api.ErrRange},
		{rows(fine, []int{2, 1, 4}), 1, api.ErrOrder},
		{rows(fine, []int{1, 1, 3}), 1, api.ErrOrder},
		{rows(fine, []int{3, 3}), 1, api.ErrOrder},
		{rows(fine, []int{3, 0}), 1, api.ErrOrder},
		{rows(fine, []int{1, 2}), 1, api.ErrOpen},
		{rows([]int{0, 1}, []int{0}), 0, api.ErrOpen},
		{rows(fine, []int{0, 3}, []int{0, 3}), 2, api.ErrOpen},
	}
}

// wrongParityCodes is these codes and their errors alone.
func wrongParityCodes() []wrong[api.CodeParity] {
	var l []wrong[api.CodeParity]
	for _, w := range wrongParities() {
		l = append(l, wrong[api.CodeParity]{w.c, w.e})
	}
	return l
}

func wrongVersions() []wrong[int] {
	return []wrong[int]{{-1, api.ErrKind}, {4, api.ErrKind}, {math.MinInt, api.ErrKind}, {math.MaxInt, api.ErrKind}}
}

func wrongCounts() []wrong[int] {
	return []wrong[int]{{0, api.ErrRange}, {-1, api.ErrRange}, {401, api.ErrRange}, {math.MinInt, api.ErrRange}, {math.MaxInt, api.ErrRange}}
}

func wrongLengths() []wrong[int] {
	return []wrong[int]{{0, api.ErrRange}, {-1, api.ErrRange}, {201, api.ErrRange}, {math.MinInt, api.ErrRange}, {math.MaxInt, api.ErrRange}}
}

func randomBits(r *rand.Rand, count int) []int {
	bits := make([]int, count)
	for i := range bits {
		bits[i] = r.Intn(2)
	}
	return bits
}

func randomPoly(r *rand.Rand, degree int) api.CodePoly {
	return api.CodePoly{Degree: degree, Taps: r.Intn(1<<(degree-1))*2 + 1}
}

// randomPolar has so many positions of information.
func randomPolar(r *rand.Rand, power, count int) api.CodePolar {
	info := r.Perm(1 << power)[:count]
	slices.Sort(info)
	return api.CodePolar{Power: power, Info: info}
}

func randomParity(r *rand.Rand, info, rows int) api.CodeParity {
	c := api.CodeParity{Info: info}
	for i := range rows {
		row := r.Perm(info + i)
		row = row[:1+r.Intn(min(len(row), 7))]
		slices.Sort(row)
		c.Rows = append(c.Rows, append(row, info+i))
	}
	return c
}

// softOf is soft bits of any sizes above 0, with the signs of bits.
func softOf(r *rand.Rand, bits []int, most int) []int {
	soft := make([]int, len(bits))
	for i, b := range bits {
		soft[i] = (1 + r.Intn(most)) * (1 - 2*b)
	}
	return soft
}

// randomSoft is soft bits of which some are 0.
func randomSoft(r *rand.Rand, count, most int) []int {
	soft := make([]int, count)
	for i := range soft {
		if r.Intn(8) > 0 {
			soft[i] = r.Intn(2*most+1) - most
		}
	}
	return soft
}

// xor is the sum of two words modulo 2.
func xor(a, b []int) []int {
	sum := make([]int, len(a))
	for i := range a {
		sum[i] = (a[i] + b[i]) % 2
	}
	return sum
}

func onesIn(bits []int) int {
	n := 0
	for _, b := range bits {
		n += b
	}
	return n
}

// numbered is the bits of a number, the least significant one first.
func numbered(n, count int) []int {
	bits := make([]int, count)
	for i := range bits {
		bits[i] = n >> i & 1
	}
	return bits
}
