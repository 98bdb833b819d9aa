package beam_test

import (
	"fmt"
	"math/rand"
	"reflect"
	"slices"
	"testing"

	"downtilt/api"
	"downtilt/beam"
)

// same compares results as they are printed: so a nil list and an empty one are the same.
func same(a, b any) bool {
	return fmt.Sprintf("%T %v", a, a) == fmt.Sprintf("%T %v", b, b)
}

// expect compares a result and its error with what they should be.
func expect(t *testing.T, what string, got any, e api.Errno, want any, f api.Errno) {
	t.Helper()
	if !same(got, want) || e != f {
		t.Errorf("%s: %v, error %d; want %v, error %d", what, got, e, want, f)
	}
}

// must returns a result whose error is none.
func must[X any](x X, e api.Errno) X {
	if e != api.OK {
		panic(fmt.Sprint("error ", e))
	}
	return x
}

// g is a whole complex number.
func g(re, im int) api.Gauss {
	return api.Gauss{Re: re, Im: im}
}

// phased is a beam with these phases.
func phased(phases ...int) api.BeamBeam {
	return api.BeamBeam{Phases: phases}
}

// square is p + q r.
func square(p, q int) api.BeamSquare {
	return api.BeamSquare{P: p, Q: q}
}

func frac(num, den int) api.Frac {
	return api.Frac{Num: num, Den: den}
}

// arguments are of all functions.
type arguments struct {
	B              api.BeamBeam
	Antennas, Step int
	G, H           []api.Gauss
	P, Q           api.BeamSquare
	Book           []api.BeamBeam
	Most           api.Frac
	Users          [][]api.Gauss
	Pairs          [][2]int
	Panel          api.BeamPanel
	Split, Wants   []int
	Tilt           api.BeamTilt
	Angle          int
	S              string
}

// rightArguments are right for each function.
func rightArguments() arguments {
	return arguments{
		B:        phased(0, -1, 7),
		Antennas: 4, Step: 3,
		G: []api.Gauss{g(1, 2), g(0, -3), g(30, -30)},
		H: []api.Gauss{g(-4, 0), g(5, 5), g(6, 7)},
		P: square(3, -2), Q: square(-1, 1),
		Book:  []api.BeamBeam{phased(0, -1, 7), phased(1, 2, 3), phased(0, 0, 0)},
		Most:  frac(1, 2),
		Users: [][]api.Gauss{{g(1, 0), g(0, 0)}, {g(0, 0), g(1, 0)}, {g(1, 0), g(0, 1)}, {g(1, 0), g(0, -1)}},
		Pairs: [][2]int{{0, 1}, {2, 3}},
		Panel: api.BeamPanel{Power: 10, Most: 6},
		Split: []int{2, 4, 4},
		Wants: []int{2, 9, 5},
		Tilt:  api.BeamTilt{Down: 60, Width: 70, Most: 200},
		Angle: 100,
		S:     "7 - 5",
	}
}

// function is one of the package, with the results ahead of its error.
type function struct {
	name string
	call func(arguments) ([]any, api.Errno)
}

func functions() []function {
	type a = arguments
	type r = []any
	type e = api.Errno
	return []function{
		{"CheckBeam", func(a a) (r, e) { return withoutNumber(beam.CheckBeam(a.B)) }},
		{"Steering", func(a a) (r, e) { return one(beam.Steering(a.Antennas, a.Step)) }},
		{"ResponseOf", func(a a) (r, e) { return one(beam.ResponseOf(a.B, a.Step)) }},
		{"GainOf", func(a a) (r, e) { return one(beam.GainOf(a.B, a.Step)) }},
		{"Nulls", func(a a) (r, e) { return one(beam.Nulls(a.B)) }},
		{"PowerOf", func(a a) (r, e) { return one(beam.PowerOf(a.B, a.H)) }},
		{"Larger", func(a a) (r, e) { return one(beam.Larger(a.P, a.Q)) }},
		{"Sweep", func(a a) (r, e) { return one(beam.Sweep(a.Book, a.H)) }},
		{"BestOf", func(a a) (r, e) { return one(beam.BestOf(a.Book, a.H)) }},
		{"Refined", func(a a) (r, e) { return two(beam.Refined(a.Step)) }},
		{"InnerOf", func(a a) (r, e) { return one(beam.InnerOf(a.G, a.H)) }},
		{"PartOf", func(a a) (r, e) { return one(beam.PartOf(a.G, a.H)) }},
		{"Cleared", func(a a) (r, e) { return one(beam.Cleared(a.G, a.H)) }},
		{"KeptOf", func(a a) (r, e) { return one(beam.KeptOf(a.G, a.H)) }},
		{"MayShare", func(a a) (r, e) { return one(beam.MayShare(a.G, a.H, a.Most)) }},
		{"MostPairs", func(a a) (r, e) { return one(beam.MostPairs(a.Users, a.Most)) }},
		{"CheckPairs", func(a a) (r, e) { return one(beam.CheckPairs(a.Users, a.Most, a.Pairs)) }},
		{"CheckSplit", func(a a) (r, e) { return one(beam.CheckSplit(a.Panel, a.Split)) }},
		{"SplitOf", func(a a) (r, e) { return one(beam.SplitOf(a.Panel, a.Wants)) }},
		{"TiltLoss", func(a a) (r, e) { return one(beam.TiltLoss(a.Tilt, a.Angle)) }},
		{"FormatBeam", func(a a) (r, e) { return r{beam.FormatBeam(a.B)}, api.OK }},
		{"ParseBeam", func(a a) (r, e) { return one(beam.ParseBeam(a.S)) }},
	}
}

func one[X any](x X, e api.Errno) ([]any, api.Errno) {
	return []any{x}, e
}

func two[X, Y any](x X, y Y, e api.Errno) ([]any, api.Errno) {
	return []any{x, y}, e
}

// withoutNumber leaves out the number of an antenna, which stands beside an error.
func withoutNumber(_ int, e api.Errno) ([]any, api.Errno) {
	return nil, e
}

// mistake is a change that makes right arguments wrong: which of them, and the error of that.
type mistake struct {
	touches string
	change  func(*arguments)
	e       api.Errno
}

// wrong is a value that is not right, and its error.
type wrong[X any] struct {
	x X
	e api.Errno
}

// mistakes puts values that are not right into an argument.
func mistakes[X any](touches string, at func(*arguments) *X, all []wrong[X]) []mistake {
	var l []mistake
	for _, w := range all {
		l = append(l, mistake{touches, func(a *arguments) { *at(a) = w.x }, w.e})
	}
	return l
}

// checkErrors makes right arguments wrong by each mistake, and by each two that touch different ones: the error of the earlier one comes, and beside it nothing.
func checkErrors(t *testing.T, name string, all ...[]mistake) {
	t.Helper()
	f := functionOf(name)
	right, e := f.call(rightArguments())
	if e != api.OK {
		t.Fatalf("%s of right arguments: error %d", name, e)
	}
	list := slices.Concat(all...)
	for i, x := range list {
		for j, y := range list[i:] {
			if j > 0 && x.touches == y.touches {
				continue
			}
			a := rightArguments()
			y.change(&a)
			x.change(&a)
			results, e := f.call(a)
			if e != x.e || !areNothing(results) || len(results) != len(right) {
				t.Errorf("%s, mistakes %d (%s) and %d (%s): %v, error %d, want error %d", name, i, x.touches, i+j, y.touches, results, e, x.e)
			}
		}
	}
}

func functionOf(name string) function {
	all := functions()
	return all[slices.IndexFunc(all, func(f function) bool { return f.name == name })]
}

// areNothing tells whether all results are zero values, or empty lists.
func areNothing(results []any) bool {
	return !slices.ContainsFunc(results, func(x any) bool {
		v := reflect.ValueOf(x)
		return !v.IsZero() && (v.Kind() != reflect.Slice || v.Len() > 0)
	})
}

// number is A, B, C and D of a number.
type number [4]int

// power is w to a power, out of a table written by hand.
func power(n int) number {
	return [8]number{
		{1, 0, 0, 0}, {0, 1, 0, 0}, {0, 0, 1, 0}, {0, 0, 0, 1},
		{-1, 0, 0, 0}, {0, -1, 0, 0}, {0, 0, -1, 0}, {0, 0, 0, -1},
	}[(n%8+8)%8]
}

func plus(a, b number) number {
	for i := range a {
		a[i] += b[i]
	}
	return a
}

// times adds up powers of w.
func times(a, b number) number {
	var sum number
	for i, x := range a {
		for j, y := range b {
			for k, z := range power(i + j) {
				sum[k] += x * y * z
			}
		}
	}
	return sum
}

// sizeSquare is a number times its conjugate: P + Q w - Q i w, since w - i w is the root of two.
func sizeSquare(x number) api.BeamSquare {
	var conjugate number
	for i, part := range x {
		for k, z := range power(-i) {
			conjugate[k] += part * z
		}
	}
	y := times(x, conjugate)
	if y[2] != 0 || y[3] != -y[1] {
		panic(fmt.Sprint("no square: ", y))
	}
	return square(y[0], y[1])
}

// part is at most that in size.
func part(r *rand.Rand, most int) int {
	return r.Intn(2*most+1) - most
}

func randomChannel(r *rand.Rand, count, most int) []api.Gauss {
	l := make([]api.Gauss, count)
	for i := range l {
		l[i] = g(part(r, most), part(r, most))
	}
	return l
}

// heardChannel is not 0 everywhere.
func heardChannel(r *rand.Rand, count, most int) []api.Gauss {
	l := randomChannel(r, count, most)
	if slices.IndexFunc(l, func(x api.Gauss) bool { return x != g(0, 0) }) < 0 {
		l[r.Intn(count)] = g(1, 0)
	}
	return l
}

// randomBeam has at least one antenna on.
func randomBeam(r *rand.Rand, count int) api.BeamBeam {
	b := phased(make([]int, count)...)
	for i := range b.Phases {
		b.Phases[i] = r.Intn(10) - 1
		if b.Phases[i] == 8 {
			b.Phases[i] = -1
		}
	}
	b.Phases[r.Intn(count)] = r.Intn(8)
	return b
}

func randomBook(r *rand.Rand, beams, count int) []api.BeamBeam {
	l := make([]api.BeamBeam, beams)
	for i := range l {
		l[i] = randomBeam(r, count)
	}
	return l
}

func randomUsers(r *rand.Rand, users, count, most int) [][]api.Gauss {
	l := make([][]api.Gauss, users)
	for i := range l {
		l[i] = heardChannel(r, count, most)
	}
	return l
}

// randomMost is a greatest part of a small denominator, or of the greatest one.
func randomMost(r *rand.Rand) api.Frac {
	l := []api.Frac{frac(0, 1), frac(1, 1), frac(1, 2), frac(1, 3), frac(2, 3), frac(1, 4), frac(3, 4), frac(2, 5), frac(1, 10), frac(9, 10), frac(499999999, 1000000000), frac(1, 1000000000)}
	return l[r.Intn(len(l))]
}

func randomList(r *rand.Rand, count, most int) []int {
	l := make([]int, count)
	for i := range l {
		l[i] = r.Intn(most + 1)
	}
	return l
}

func sumOf(l []int) int {
	sum := 0
	for _, n := range l {
		sum += n
	}
	return sum
}
