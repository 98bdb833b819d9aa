package wave_test

import (
	"fmt"
	"math/rand"
	"reflect"
	"slices"
	"testing"

	"downtilt/api"
	"downtilt/wave"
)

// same compares results as they are printed: so a nil list and an empty one are the same.
func same(a, b any) bool {
	return fmt.Sprintf("%T %v", a, a) == fmt.Sprintf("%T %v", b, b)
}

// expect compares a result and its error with what they should be.
func expect(t *testing.T, what string, got any, e api.Errno, want any, f api.Errno) {
	t.Helper()
	if !same(got, want) || e != f {
		t.Errorf("%s: %v, error %d; want %v, error %d", what, got, e, want, f)
	}
}

// must returns a result whose error is none.
func must[X any](x X, e api.Errno) X {
	if e != api.OK {
		panic(fmt.Sprint("error ", e))
	}
	return x
}

// g is a whole complex number.
func g(re, im int) api.Gauss {
	return api.Gauss{Re: re, Im: im}
}

// number is a + b w + c i + d i w.
func number(a, b, c, d int) api.WaveNumber {
	return api.WaveNumber{A: a, B: b, C: c, D: d}
}

// path is one of that delay and gain.
func path(delay, re, im int) api.WavePath {
	return api.WavePath{Delay: delay, Gain: g(re, im)}
}

// arguments are of all functions.
type arguments struct {
	X, Y            api.WaveNumber
	P, Q            api.WaveSquare
	Eighths         int
	Entries         [8]api.Gauss
	Samples         [8]api.WaveNumber
	Four, Back      [4]api.Gauss
	Symbols         [][8]api.Gauss
	Guard, Symbol   int
	Stream          []api.WaveNumber
	Paths           []api.WavePath
	List, Other     []api.Gauss
	Limit           int
	Identity, At    int
	Values, Longer  []int
	Known, Received []api.WaveNumber
	References      []api.Gauss
	Heard           []api.Gauss
	Step            int
}

// rightArguments are right for each function.
func rightArguments() arguments {
	entries := [8]api.Gauss{g(1, 2), g(0, -3), g(10000, -10000), 7: g(5, 5)}
	stream := must(wave.Stream([][8]api.Gauss{entries, {1: g(1, 0)}}, 2))
	return arguments{
		X: number(1, -2, 3, 4), Y: number(-5, 6, 0, 1000),
		P: api.WaveSquare{P: 3, Q: -2}, Q: api.WaveSquare{P: -1, Q: 1},
		Eighths: 3,
		Entries: entries,
		Samples: must(wave.Samples(entries)),
		Four:    [4]api.Gauss{g(1, 2), g(3, -4), g(0, 5), g(-6, 0)},
		Back:    must(wave.Four([4]api.Gauss{g(1, 2), g(3, -4), g(0, 5), g(-6, 0)})),
		Symbols: [][8]api.Gauss{entries, {1: g(1, 0)}},
		Guard:   2, Symbol: 1,
		Stream: stream,
		Paths:  []api.WavePath{path(0, 1, 0), path(1, 0, -2), path(3, 4, 5)},
		List:   []api.Gauss{g(5, -7), g(3, 0), g(-9, 10)},
		Other:  []api.Gauss{g(5, -6), g(0, 0), g(1, 1)},
		Limit:  6, Identity: 100, At: 3,
		Values: must(wave.SequenceOf(70)),
		Longer: slices.Concat([]int{1, -1, 0}, must(wave.SequenceOf(70)), []int{5}),
		Known:  []api.WaveNumber{number(1, 0, 2, 0), number(0, 3, 0, -1), number(7, 7, 7, 7)},
		Received: must(wave.Shifted(
			[]api.WaveNumber{number(1, 0, 2, 0), number(0, 3, 0, -1), number(7, 7, 7, 7)}, 5)),
		References: []api.Gauss{g(0, 1), g(1, 0), g(-1, 0)},
		Heard:      []api.Gauss{g(2, 3), g(-4, 5), g(9, 9)},
		Step:       4,
	}
}

// function is one of the package, with the results ahead of its error.
type function struct {
	name string
	call func(arguments) ([]any, api.Errno)
}

func functions() []function {
	type a = arguments
	type r = []any
	type e = api.Errno
	return []function{
		{"Turned", func(a a) (r, e) { return one(wave.Turned(a.X, a.Eighths)) }},
		{"Product", func(a a) (r, e) { return one(wave.Product(a.X, a.Y)) }},
		{"SquareOf", func(a a) (r, e) { return one(wave.SquareOf(a.X)) }},
		{"Compared", func(a a) (r, e) { return one(wave.Compared(a.P, a.Q)) }},
		{"Samples", func(a a) (r, e) { return one(wave.Samples(a.Entries)) }},
		{"Transform", func(a a) (r, e) { return one(wave.Transform(a.Samples)) }},
		{"Spectrum", func(a a) (r, e) { return one(wave.Spectrum(a.Samples)) }},
		{"Four", func(a a) (r, e) { return one(wave.Four(a.Four)) }},
		{"FourBack", func(a a) (r, e) { return one(wave.FourBack(a.Back)) }},
		{"Stream", func(a a) (r, e) { return one(wave.Stream(a.Symbols, a.Guard)) }},
		{"SymbolOf", func(a a) (r, e) { return one(wave.SymbolOf(a.Stream, a.Guard, a.Symbol)) }},
		{"CheckPaths", func(a a) (r, e) { return withoutNumber(wave.CheckPaths(a.Paths)) }},
		{"Through", func(a a) (r, e) { return one(wave.Through(a.Paths, a.Stream)) }},
		{"ResponseOf", func(a a) (r, e) { return one(wave.ResponseOf(a.Paths)) }},
		{"Clipped", func(a a) (r, e) { return one(wave.Clipped(a.List, a.Limit)) }},
		{"ErrorOf", func(a a) (r, e) { return one(wave.ErrorOf(a.List, a.Other)) }},
		{"Shifts", func(a a) (r, e) { return one(wave.Shifts(a.Identity)) }},
		{"SequenceOf", func(a a) (r, e) { return one(wave.SequenceOf(a.Identity)) }},
		{"CorrelationOf", func(a a) (r, e) { return one(wave.CorrelationOf(a.Identity, a.Values)) }},
		{"IdentityAt", func(a a) (r, e) { return one(wave.IdentityAt(a.Longer, a.At)) }},
		{"Search", func(a a) (r, e) { return one(wave.Search(a.Longer)) }},
		{"Shifted", func(a a) (r, e) { return one(wave.Shifted(a.Stream, a.Eighths)) }},
		{"OffsetOf", func(a a) (r, e) { return one(wave.OffsetOf(a.Known, a.Received)) }},
		{"EstimatesOf", func(a a) (r, e) { return one(wave.EstimatesOf(a.References, a.Heard)) }},
		{"Interpolated", func(a a) (r, e) { return one(wave.Interpolated(a.List, a.Step)) }},
		{"BendOf", func(a a) (r, e) { return one(wave.BendOf(a.List)) }},
	}
}

func one[X any](x X, e api.Errno) ([]any, api.Errno) {
	return []any{x}, e
}

// withoutNumber leaves out the number of a path, which stands beside an error.
func withoutNumber(_ int, e api.Errno) ([]any, api.Errno) {
	return nil, e
}

// mistake is a change that makes right arguments wrong: which of them, and the error of that.
type mistake struct {
	touches string
	change  func(*arguments)
	e       api.Errno
}

// wrong is a value that is not right, and its error.
type wrong[X any] struct {
	x X
	e api.Errno
}

// mistakes puts values that are not right into an argument.
func mistakes[X any](touches string, at func(*arguments) *X, all []wrong[X]) []mistake {
	var l []mistake
	for _, w := range all {
		l = append(l, mistake{touches, func(a *arguments) { *at(a) = w.x }, w.e})
	}
	return l
}

// checkErrors makes right arguments wrong by each mistake, and by each two that touch different ones: the error of the earlier one comes, and beside it nothing.
func checkErrors(t *testing.T, name string, all ...[]mistake) {
	t.Helper()
	f := functionOf(name)
	right, e := f.call(rightArguments())
	if e != api.OK {
		t.Fatalf("%s of right arguments: error %d", name, e)
	}
	list := slices.Concat(all...)
	for i, x := range list {
		for j, y := range list[i:] {
			if j > 0 && x.touches == y.touches {
				continue
			}
			a := rightArguments()
			y.change(&a)
			x.change(&a)
			results, e := f.call(a)
			if e != x.e || !areNothing(results) || len(results) != len(right) {
				t.Errorf("%s, mistakes %d (%s) and %d (%s): %v, error %d, want error %d", name, i, x.touches, i+j, y.touches, results, e, x.e)
			}
		}
	}
}

func functionOf(name string) function {
	all := functions()
	return all[slices.IndexFunc(all, func(f function) bool { return f.name == name })]
}

// areNothing tells whether all results are zero values, or empty lists.
func areNothing(results []any) bool {
	return !slices.ContainsFunc(results, func(x any) bool {
		v := reflect.ValueOf(x)
		return !v.IsZero() && (v.Kind() != reflect.Slice || v.Len() > 0)
	})
}

// part is at most that in size.
func part(r *rand.Rand, most int) int {
	return r.Intn(2*most+1) - most
}

func randomNumber(r *rand.Rand, most int) api.WaveNumber {
	return number(part(r, most), part(r, most), part(r, most), part(r, most))
}

func randomNumbers(r *rand.Rand, count, most int) []api.WaveNumber {
	l := make([]api.WaveNumber, count)
	for i := range l {
		l[i] = randomNumber(r, most)
	}
	return l
}

func randomGauss(r *rand.Rand, count, most int) []api.Gauss {
	l := make([]api.Gauss, count)
	for i := range l {
		l[i] = g(part(r, most), part(r, most))
	}
	return l
}

func randomSymbols(r *rand.Rand, count, most int) [][8]api.Gauss {
	l := make([][8]api.Gauss, count)
	for i := range l {
		l[i] = [8]api.Gauss(randomGauss(r, 8, most))
	}
	return l
}

// randomPaths has delays up to that.
func randomPaths(r *rand.Rand, delay, most int) []api.WavePath {
	var l []api.WavePath
	for d := range delay + 1 {
		if len(l) < 6 && r.Intn(2) == 0 {
			l = append(l, path(d, part(r, most), part(r, most)))
		}
	}
	if len(l) == 0 {
		l = append(l, path(r.Intn(delay+1), part(r, most), 1))
	}
	return l
}

func randomValues(r *rand.Rand, count, most int) []int {
	l := make([]int, count)
	for i := range l {
		l[i] = part(r, most)
	}
	return l
}

// randomReferences are 1, i, -1 or -i.
func randomReferences(r *rand.Rand, count int) []api.Gauss {
	l := make([]api.Gauss, count)
	for i := range l {
		l[i] = []api.Gauss{g(1, 0), g(0, 1), g(-1, 0), g(0, -1)}[r.Intn(4)]
	}
	return l
}
