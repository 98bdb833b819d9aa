package symbol_test

import (
	"fmt"
	"math/rand"
	"slices"
	"testing"

	"downtilt/api"
	"downtilt/symbol"
)

// same compares results as they are printed: so a nil list and an empty one are the same.
func same(a, b any) bool {
	return fmt.Sprintf("%T %v", a, a) == fmt.Sprintf("%T %v", b, b)
}

// expect compares a result and its error with what they should be.
func expect(t *testing.T, what string, got any, e api.Errno, want any, f api.Errno) {
	t.Helper()
	if !same(got, want) || e != f {
		t.Errorf("%s: %v, error %d; want %v, error %d", what, got, e, want, f)
	}
}

// must returns a result whose error is none.
func must[X any](x X, e api.Errno) X {
	if e != api.OK {
		panic(fmt.Sprint("error ", e))
	}
	return x
}

// g is a whole complex number.
func g(re, im int) api.Gauss {
	return api.Gauss{Re: re, Im: im}
}

// arguments are of all functions.
type arguments struct {
	R                   api.SymbolRegister
	Count, Steps        int
	Order, Level        int
	Label, Bits         []int
	X                   api.SymbolReceived
	Sent, Symbols       []api.Gauss
	A, B, Layers, Ports [][]api.Gauss
	S                   string
}

// rightArguments are right for each function.
func rightArguments() arguments {
	return arguments{
		R:     api.SymbolRegister{Length: 3, Taps: []int{0, 1}, State: []int{1, 0, 0}},
		Count: 2, Steps: 5, Order: 4, Level: -3,
		Label:   []int{0, 1},
		Bits:    []int{0, 1, 1, 0, 1, 1, 0, 0},
		X:       api.SymbolReceived{Order: 4, Gain: 2, Symbols: []api.Gauss{g(5, 1), g(-7, 0)}},
		Sent:    []api.Gauss{g(3, 1), g(-3, -1)},
		Symbols: []api.Gauss{g(1, 0), g(2, 0), g(3, 0), g(4, 0)},
		A:       [][]api.Gauss{{g(1, 0), g(0, 1)}, {g(0, 0), g(2, 0)}},
		B:       [][]api.Gauss{{g(2, 1)}, {g(0, -1)}},
		Layers:  [][]api.Gauss{{g(3, 0), g(1, 1)}, {g(1, 1), g(0, 2)}},
		Ports:   [][]api.Gauss{{g(2, 1)}, {g(2, 2)}},
		S:       "3,-1 1,1",
	}
}

// function is one of the package, with the results ahead of its error.
type function struct {
	name string
	call func(arguments) ([]any, api.Errno)
}

func functions() []function {
	type a = arguments
	type r = []any
	type e = api.Errno
	return []function{
		{"CheckRegister", func(a a) (r, e) { return nil, symbol.CheckRegister(a.R) }},
		{"Next", func(a a) (r, e) { return two(symbol.Next(a.R)) }},
		{"Sequence", func(a a) (r, e) { return one(symbol.Sequence(a.R, a.Count)) }},
		{"Jumped", func(a a) (r, e) { return one(symbol.Jumped(a.R, a.Steps)) }},
		{"Period", func(a a) (r, e) { return one(symbol.Period(a.R)) }},
		{"Scrambled", func(a a) (r, e) { return one(symbol.Scrambled(a.R, a.Bits)) }},
		{"LevelOf", func(a a) (r, e) { return one(symbol.LevelOf(a.Label)) }},
		{"BitsOf", func(a a) (r, e) { return one(symbol.BitsOf(a.Count, a.Level)) }},
		{"Points", func(a a) (r, e) { return one(symbol.Points(a.Order)) }},
		{"Modulated", func(a a) (r, e) { return one(symbol.Modulated(a.Order, a.Bits)) }},
		{"Hard", func(a a) (r, e) { return one(symbol.Hard(a.X)) }},
		{"Soft", func(a a) (r, e) { return one(symbol.Soft(a.X)) }},
		{"GreatestError", func(a a) (r, e) { return two(symbol.GreatestError(a.X, a.Sent)) }},
		{"Layered", func(a a) (r, e) { return one(symbol.Layered(a.Count, a.Symbols)) }},
		{"Unlayered", func(a a) (r, e) { return one(symbol.Unlayered(a.Layers)) }},
		{"CheckMatrix", func(a a) (r, e) { return nil, symbol.CheckMatrix(a.A) }},
		{"Applied", func(a a) (r, e) { return one(symbol.Applied(a.A, a.Layers)) }},
		{"Product", func(a a) (r, e) { return one(symbol.Product(a.A, a.B)) }},
		{"Determinant", func(a a) (r, e) { return one(symbol.Determinant(a.A)) }},
		{"Equalized", func(a a) (r, e) { return two(symbol.Equalized(a.A, a.Ports)) }},
		{"FormatSymbols", func(a a) (r, e) { return r{symbol.FormatSymbols(a.Symbols)}, api.OK }},
		{"ParseSymbols", func(a a) (r, e) { return one(symbol.ParseSymbols(a.S)) }},
	}
}

func one[X any](x X, e api.Errno) ([]any, api.Errno) {
	return []any{x}, e
}

func two[X, Y any](x X, y Y, e api.Errno) ([]any, api.Errno) {
	return []any{x, y}, e
}

// mistake is a change that makes right arguments wrong: which of them, and the error of that.
type mistake struct {
	touches string
	change  func(*arguments)
	e       api.Errno
}

// wrong is a value that is not right, and its error.
type wrong[X any] struct {
	x X
	e api.Errno
}

// mistakes puts values that are not right into an argument.
func mistakes[X any](touches string, at func(*arguments) *X, all []wrong[X]) []mistake {
	var l []mistake
	for _, w := range all {
		l = append(l, mistake{touches, func(a *arguments) { *at(a) = w.x }, w.e})
	}
	return l
}

// checkErrors makes right arguments wrong by each mistake, and by each two that touch different ones: the error of the earlier one comes, and beside it nothing.
func checkErrors(t *testing.T, name string, all ...[]mistake) {
	t.Helper()
	f := functionOf(name)
	right, e := f.call(rightArguments())
	if e != api.OK {
		t.Fatalf("%s of right arguments: error %d", name, e)
	}
	list := slices.Concat(all...)
	for i, x := range list {
		for j, y := range list[i:] {
			if j > 0 && x.touches == y.touches {
				continue
			}
			a := rightArguments()
			y.change(&a)
			x.change(&a)
			results, e := f.call(a)
			if e != x.e || !areNothing(results) || len(results) != len(right) {
				t.Errorf("%s, mistakes %d (%s) and %d (%s): %v, error %d, want error %d", name, i, x.touches, i+j, y.touches, results, e, x.e)
			}
		}
	}
}

func functionOf(name string) function {
	all := functions()
	return all[slices.IndexFunc(all, func(f function) bool { return f.name == name })]
}

// areNothing tells whether all results are zero values, or empty lists.
func areNothing(results []any) bool {
	return !slices.ContainsFunc(results, func(x any) bool {
		return !slices.Contains([]string{"0", "[]", "", "{0 0}", "{0 [] []}"}, fmt.Sprint(x))
	})
}

func randomBits(r *rand.Rand, count int) []int {
	bits := make([]int, count)
	for i := range bits {
		bits[i] = r.Intn(2)
	}
	return bits
}

// randomSymbols has so many symbols whose parts are at most that in size.
func randomSymbols(r *rand.Rand, count, most int) []api.Gauss {
	l := make([]api.Gauss, count)
	for i := range l {
		l[i] = g(r.Intn(2*most+1)-most, r.Intn(2*most+1)-most)
	}
	return l
}

// randomRows has so many rows of random symbols.
func randomRows(r *rand.Rand, rows, count, most int) [][]api.Gauss {
	var l [][]api.Gauss
	for range rows {
		l = append(l, randomSymbols(r, count, most))
	}
	return l
}

// randomRegister has the tap 0, and each other one or not.
func randomRegister(r *rand.Rand) api.SymbolRegister {
	x := api.SymbolRegister{Length: 2 + r.Intn(9), Taps: []int{0}}
	for tap := 1; tap < x.Length; tap++ {
		if r.Intn(3) == 0 {
			x.Taps = append(x.Taps, tap)
		}
	}
	x.State = randomBits(r, x.Length)
	return x
}
