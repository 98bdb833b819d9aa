package wave_test

import (
	"math"
	"slices"
	"testing"

	"downtilt/api"
	"downtilt/wave"
)

// wrongNumbers is numbers with one part that is greater in size than most.
func wrongNumbers(most int) []wrong[api.WaveNumber] {
	var l []wrong[api.WaveNumber]
	for _, far := range []int{most + 1, -most - 1, math.MaxInt, math.MinInt} {
		for _, x := range []api.WaveNumber{number(far, 0, 0, 0), number(0, far, 0, 0), number(0, 0, far, 0), number(0, 0, 0, far)} {
			l = append(l, wrong[api.WaveNumber]{x, api.ErrRange})
		}
	}
	return l
}

// wrongGauss is whole complex numbers with one part that is greater in size than most.
func wrongGauss(most int) []wrong[api.Gauss] {
	var l []wrong[api.Gauss]
	for _, far := range []int{most + 1, -most - 1, math.MaxInt, math.MinInt} {
		l = append(l, wrong[api.Gauss]{g(far, 0), api.ErrRange}, wrong[api.Gauss]{g(0, far), api.ErrRange})
	}
	return l
}

// wrongInts is numbers that are beyond a range, with this error.
func wrongInts(lo, hi int, e api.Errno) []wrong[int] {
	return []wrong[int]{{lo - 1, e}, {hi + 1, e}, {math.MinInt, e}, {math.MaxInt, e}}
}

// oneWrong is lists of so many items one of which is wrong: each wrong one stands first in one list, and last in another one.
func oneWrong[X any](count int, right X, all []wrong[X]) []wrong[[]X] {
	var l []wrong[[]X]
	for _, w := range all {
		first, last := slices.Repeat([]X{right}, count), slices.Repeat([]X{right}, count)
		first[0], last[count-1] = w.x, w.x
		l = append(l, wrong[[]X]{first, w.e}, wrong[[]X]{last, w.e})
	}
	return l
}

// tooMany is lists that have one item too many, right or wrong ones.
func tooMany[X any](most int, right, far X) []wrong[[]X] {
	return []wrong[[]X]{
		{slices.Repeat([]X{right}, most+1), api.ErrLarge},
		{slices.Repeat([]X{far}, most+1), api.ErrLarge},
	}
}

// wrongSamples is for lists of samples.
func wrongSamples() []wrong[[]api.WaveNumber] {
	const most = 1000000000
	l := tooMany(120, number(0, 0, 0, 0), number(0, 0, most+1, 0))
	return slices.Concat(l, oneWrong(1, api.WaveNumber{}, wrongNumbers(most)), oneWrong(120, number(most, -most, most, -most), wrongNumbers(most)))
}

// wrongEntries is for lists of entries which may be empty, of at most so many.
func wrongEntries(most int) []wrong[[]api.Gauss] {
	return append(tooMany(most, g(0, 0), g(10001, 0)), oneWrong(most, g(10000, -10000), wrongGauss(10000))...)
}

func wrongPaths() []wrong[[]api.WavePath] {
	type paths = []api.WavePath
	return []wrong[paths]{
		{nil, api.ErrShape},
		{make(paths, 7), api.ErrLarge},
		{slices.Repeat(paths{path(9, 1000, 0)}, 7), api.ErrLarge},
		{paths{path(-1, 0, 0)}, api.ErrRange},
		{paths{path(0, 1, 1), path(8, 0, 0)}, api.ErrRange},
		{paths{path(0, 101, 0)}, api.ErrRange},
		{paths{path(2, 0, -101)}, api.ErrRange},
		{paths{path(2, 0, 0), path(1, math.MinInt, 0)}, api.ErrRange},
		{paths{path(2, 0, 0), path(2, 0, 0)}, api.ErrOrder},
		{paths{path(2, 0, 0), path(1, 0, 0), path(9, 0, 0)}, api.ErrOrder},
	}
}

// wrongReceived is for received values of which there may be any number up to 120.
func wrongReceived() []wrong[[]int] {
	all := []wrong[int]{{100001, api.ErrRange}, {-100001, api.ErrRange}, {math.MinInt, api.ErrRange}, {math.MaxInt, api.ErrRange}}
	return slices.Concat(tooMany(120, 0, 100001), oneWrong(120, 100000, all), oneWrong(62, -100000, all), oneWrong(1, 0, all))
}

func eighths() []mistake {
	return mistakes("eighths", func(a *arguments) *int { return &a.Eighths }, wrongInts(0, 7, api.ErrRange))
}

func guards() []mistake {
	return mistakes("guard", func(a *arguments) *int { return &a.Guard }, append(wrongInts(0, 7, api.ErrRange), wrong[int]{-8, api.ErrRange}))
}

func identities() []mistake {
	return mistakes("identity", func(a *arguments) *int { return &a.Identity }, wrongInts(0, 1007, api.ErrRange))
}

func samples() []mistake {
	return mistakes("stream", func(a *arguments) *[]api.WaveNumber { return &a.Stream }, wrongSamples())
}

func paths() []mistake {
	return mistakes("paths", func(a *arguments) *[]api.WavePath { return &a.Paths }, wrongPaths())
}

func TestErrorsOfNumbers(t *testing.T) {
	x := mistakes("x", func(a *arguments) *api.WaveNumber { return &a.X }, wrongNumbers(1000000000))
	y := mistakes("y", func(a *arguments) *api.WaveNumber { return &a.Y }, wrongNumbers(1000000000))
	checkErrors(t, "Turned", x, eighths())
	large := []mistake{{"both", func(a *arguments) { a.X, a.Y = number(1000000000, 0, 0, 0), number(0, 0, 0, 2) }, api.ErrLarge}}
	checkErrors(t, "Product", x, y)
	checkErrors(t, "Product", large)
	checkErrors(t, "SquareOf", mistakes("x", func(a *arguments) *api.WaveNumber { return &a.X }, wrongNumbers(1000000)))
	var squares []wrong[api.WaveSquare]
	for _, far := range []int{10000000000001, -10000000000001, math.MinInt, math.MaxInt} {
		squares = append(squares, wrong[api.WaveSquare]{api.WaveSquare{P: far}, api.ErrRange}, wrong[api.WaveSquare]{api.WaveSquare{Q: far}, api.ErrRange})
	}
	p := mistakes("p", func(a *arguments) *api.WaveSquare { return &a.P }, squares)
	q := mistakes("q", func(a *arguments) *api.WaveSquare { return &a.Q }, squares)
	checkErrors(t, "Compared", p, q)
}

// wrongAt puts each wrong item into each place of an argument.
func wrongAt[X any](touches string, at func(*arguments) []X, all []wrong[X]) []mistake {
	var l []mistake
	right := rightArguments()
	for i := range at(&right) {
		for _, w := range all {
			l = append(l, mistake{touches, func(a *arguments) { at(a)[i] = w.x }, w.e})
		}
	}
	return l
}

func TestErrorsOfTransforms(t *testing.T) {
	const most = 1000000000
	checkErrors(t, "Samples", wrongAt("entries", func(a *arguments) []api.Gauss { return a.Entries[:] }, wrongGauss(10000)))
	numbers := wrongAt("samples", func(a *arguments) []api.WaveNumber { return a.Samples[:] }, wrongNumbers(most))
	half := wrongAt("others", func(a *arguments) []api.WaveNumber { return a.Samples[:1] }, []wrong[api.WaveNumber]{{number(1, 0, 0, 0), api.ErrForm}, {number(0, most, 0, 0), api.ErrForm}})
	checkErrors(t, "Transform", numbers)
	checkErrors(t, "Spectrum", numbers)
	checkErrors(t, "Spectrum", half)
	large := []mistake{{"sum", func(a *arguments) { a.Samples[1], a.Samples[2] = number(most, 0, 0, 0), number(0, most, 0, 0) }, api.ErrLarge}}
	checkErrors(t, "Transform", large)
	for _, first := range numbers[:16] { // an error of a number is ahead of a form and a size
		a := rightArguments()
		a.Samples[3], a.Samples[4] = number(most, most, most, most), number(most, most, most, most)
		first.change(&a)
		y, e := wave.Transform(a.Samples)
		expect(t, "Transform", y, e, [8]api.WaveNumber{}, api.ErrRange)
		x, e := wave.Spectrum(a.Samples)
		expect(t, "Spectrum", x, e, [8]api.Gauss{}, api.ErrRange)
	}
	checkErrors(t, "Four", wrongAt("four", func(a *arguments) []api.Gauss { return a.Four[:] }, wrongGauss(most)))
	back := wrongAt("back", func(a *arguments) []api.Gauss { return a.Back[:] }, wrongGauss(most))
	form := []mistake{
		{"form", func(a *arguments) { a.Back[0].Re++ }, api.ErrForm},
		{"form", func(a *arguments) { a.Back[1].Im++ }, api.ErrForm},
		{"form", func(a *arguments) { a.Back[2].Re-- }, api.ErrForm},
		{"form", func(a *arguments) { a.Back[3].Im += 3 }, api.ErrForm},
	}
	checkErrors(t, "FourBack", back)
	checkErrors(t, "FourBack", form)
	for _, x := range [][4]api.Gauss{{g(1, 0), g(most+1, 0)}, {g(1, 0), {}, {}, g(0, -most-1)}} {
		y, e := wave.FourBack(x)
		expect(t, "FourBack", y, e, [4]api.Gauss{}, api.ErrRange)
	}
}

func TestErrorsOfStreams(t *testing.T) {
	type symbols = [][8]api.Gauss
	all := []wrong[symbols]{{nil, api.ErrShape}, {symbols{}, api.ErrShape}, {make(symbols, 7), api.ErrLarge}, {slices.Repeat(symbols{{0: g(10001, 0)}}, 7), api.ErrLarge}}
	for _, w := range wrongGauss(10000) {
		for _, x := range []symbols{{{0: w.x}}, {{}, {7: w.x}}, {{3: w.x}, {}}, {{}, {}, {}, {}, {}, {7: w.x}}} {
			all = append(all, wrong[symbols]{x, w.e})
		}
	}
	checkErrors(t, "Stream", mistakes("symbols", func(a *arguments) *symbols { return &a.Symbols }, all), guards())
	missing := wrongInts(0, 1, api.ErrMissing)
	checkErrors(t, "SymbolOf", samples(), guards(), mistakes("symbol", func(a *arguments) *int { return &a.Symbol }, missing))
}

func TestErrorsOfPaths(t *testing.T) {
	large := []mistake{{"stream", func(a *arguments) {
		a.Stream = []api.WaveNumber{number(0, 1000000000, 0, 0), number(1000000000, 0, 0, 0)}
	}, api.ErrLarge}}
	checkErrors(t, "CheckPaths", paths())
	checkErrors(t, "Through", paths(), samples(), large)
	checkErrors(t, "ResponseOf", paths())
}

func TestErrorsOfClipping(t *testing.T) {
	x := mistakes("list", func(a *arguments) *[]api.Gauss { return &a.List }, wrongEntries(120))
	checkErrors(t, "Clipped", x, mistakes("limit", func(a *arguments) *int { return &a.Limit }, wrongInts(0, 10000, api.ErrRange)))
	checkErrors(t, "ErrorOf", tooManyFirst(x), shapes())
	var both []mistake
	for _, w := range wrongGauss(10000) {
		both = append(both, mistake{"list", func(a *arguments) { a.List[2] = w.x }, w.e})
		both = append(both, mistake{"other", func(a *arguments) { a.Other[0] = w.x }, w.e})
	}
	checkErrors(t, "ErrorOf", shapes(), both)
}

// tooManyFirst has only the mistakes of lists that are too long.
func tooManyFirst(l []mistake) []mistake {
	return slices.DeleteFunc(slices.Clone(l), func(m mistake) bool { return m.e != api.ErrLarge })
}

// shapes is of a second list that is not as long as the first one.
func shapes() []mistake {
	return mistakes("number", func(a *arguments) *[]api.Gauss { return &a.Other }, []wrong[[]api.Gauss]{
		{nil, api.ErrShape},
		{make([]api.Gauss, 2), api.ErrShape},
		{make([]api.Gauss, 4), api.ErrShape},
		{slices.Repeat([]api.Gauss{g(10001, 0)}, 4), api.ErrShape},
		{make([]api.Gauss, 121), api.ErrShape},
	})
}

func TestErrorsOfCells(t *testing.T) {
	checkErrors(t, "Shifts", identities())
	checkErrors(t, "SequenceOf", identities())
	values := []wrong[[]int]{{nil, api.ErrShape}, {make([]int, 61), api.ErrShape}, {make([]int, 63), api.ErrShape}, {slices.Repeat([]int{100001}, 61), api.ErrShape}, {make([]int, 121), api.ErrShape}}
	for _, w := range wrongReceived() {
		if len(w.x) == 62 {
			values = append(values, w)
		}
	}
	checkErrors(t, "CorrelationOf", identities(), mistakes("values", func(a *arguments) *[]int { return &a.Values }, values))
	longer := mistakes("longer", func(a *arguments) *[]int { return &a.Longer }, wrongReceived())
	at := mistakes("at", func(a *arguments) *int { return &a.At }, append(wrongInts(0, 4, api.ErrMissing), wrong[int]{-62, api.ErrMissing}, wrong[int]{66, api.ErrMissing}))
	checkErrors(t, "IdentityAt", longer, at)
	short := []wrong[[]int]{{nil, api.ErrShape}, {make([]int, 1), api.ErrShape}, {make([]int, 61), api.ErrShape}}
	checkErrors(t, "Search", longer, mistakes("length", func(a *arguments) *[]int { return &a.Longer }, short))
	for _, length := range []int{0, 1, 61} {
		for _, at := range []int{0, -1, -62, 1} {
			f, e := wave.IdentityAt(make([]int, length), at)
			expect(t, "IdentityAt of a short list", f, e, api.WaveFound{}, api.ErrMissing)
		}
	}
}

func TestErrorsOfOffsets(t *testing.T) {
	type list = []api.WaveNumber
	checkErrors(t, "Shifted", samples(), eighths())
	far := number(101, 0, 0, 0)
	shape := []mistake{
		{"number", func(a *arguments) { a.Known = nil }, api.ErrShape},
		{"number", func(a *arguments) { a.Known, a.Received = nil, nil }, api.ErrShape},
		{"number", func(a *arguments) { a.Known = append(a.Known, far) }, api.ErrShape},
		{"number", func(a *arguments) { a.Known = make(list, 17) }, api.ErrShape},
		{"number", func(a *arguments) { a.Received = nil }, api.ErrShape},
		{"number", func(a *arguments) { a.Received = append(a.Received, far) }, api.ErrShape},
	}
	large := []mistake{
		{"both", func(a *arguments) { a.Known, a.Received = make(list, 17), make(list, 17) }, api.ErrLarge},
		{"both", func(a *arguments) { a.Known, a.Received = slices.Repeat(list{far}, 17), make(list, 17) }, api.ErrLarge},
	}
	checkErrors(t, "OffsetOf", shape)
	checkErrors(t, "OffsetOf", large)
	var known, received []mistake
	for _, w := range wrongNumbers(100) {
		known = append(known, mistake{"known", func(a *arguments) { a.Known[2] = w.x }, w.e})
		received = append(received, mistake{"received", func(a *arguments) { a.Received[0] = w.x }, w.e})
	}
	checkErrors(t, "OffsetOf", known, received)
	checkErrors(t, "OffsetOf", shape[2:3], received)
	checkErrors(t, "OffsetOf", shape[5:6], known)
}

func TestErrorsOfEstimates(t *testing.T) {
	type list = []api.Gauss
	large := mistakes("references", func(a *arguments) *list { return &a.References }, tooMany(40, g(1, 0), g(0, 0)))
	shape := mistakes("heard", func(a *arguments) *list { return &a.Heard }, []wrong[list]{
		{nil, api.ErrShape}, {make(list, 2), api.ErrShape}, {make(list, 4), api.ErrShape}, {slices.Repeat(list{g(10001, 0)}, 41), api.ErrShape},
	})
	checkErrors(t, "EstimatesOf", large, shape)
	var form, heard []mistake
	for _, k := range []api.Gauss{g(0, 0), g(1, 1), g(-1, 1), g(1, -1), g(2, 0), g(0, 2), g(-2, 0), g(0, -2), g(math.MinInt, 0), g(0, math.MaxInt), g(1<<32, 0), g(1<<32, 1)} {
		form = append(form, mistake{"references", func(a *arguments) { a.References[2] = k }, api.ErrForm})
		form = append(form, mistake{"references", func(a *arguments) { a.References[0] = k }, api.ErrForm})
	}
	for _, w := range wrongGauss(10000) {
		heard = append(heard, mistake{"heard", func(a *arguments) { a.Heard[0] = w.x }, w.e})
		heard = append(heard, mistake{"heard", func(a *arguments) { a.Heard[2] = w.x }, w.e})
	}
	checkErrors(t, "EstimatesOf", form, heard)
	checkErrors(t, "EstimatesOf", shape[:3], form)
	estimates := mistakes("list", func(a *arguments) *list { return &a.List }, append(wrongEntries(40), wrong[list]{nil, api.ErrShape}, wrong[list]{list{}, api.ErrShape}))
	checkErrors(t, "Interpolated", estimates, mistakes("step", func(a *arguments) *int { return &a.Step }, wrongInts(1, 20, api.ErrRange)))
	checkErrors(t, "BendOf", mistakes("list", func(a *arguments) *list { return &a.List }, wrongEntries(800)))
}

// TestPathsAreNotNamed is of the functions that have the error of CheckPaths, without its number.
func TestPathsAreNotNamed(t *testing.T) {
	l := []api.WavePath{path(0, 1, 0), path(1, 1, 0), path(1, 1, 0), path(9, 1, 0)}
	n, e := wave.CheckPaths(l)
	expect(t, "CheckPaths", n, e, 2, api.ErrOrder)
	y, e := wave.Through(l, nil)
	expect(t, "Through", y, e, []api.WaveNumber(nil), api.ErrOrder)
	response, e := wave.ResponseOf(l)
	expect(t, "ResponseOf", response, e, [8]api.WaveNumber{}, api.ErrOrder)
}
