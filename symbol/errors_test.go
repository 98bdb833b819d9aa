package symbol_test

import (
	"math"
	"slices"
	"testing"

	"downtilt/api"
	"downtilt/symbol"
)

func wrongRegisters() []wrong[api.SymbolRegister] {
	type register = api.SymbolRegister
	taps, state := []int{0, 1}, []int{1, 0, 0}
	return []wrong[register]{
		{register{}, api.ErrRange},
		{register{Length: 1, Taps: []int{0}, State: []int{1}}, api.ErrRange},
		{register{Length: 11, Taps: taps, State: make([]int, 11)}, api.ErrRange},
		{register{Length: -3}, api.ErrRange},
		{register{Length: math.MinInt, Taps: taps, State: state}, api.ErrRange},
		{register{Length: math.MaxInt, Taps: taps, State: state}, api.ErrRange},
		{register{Length: 3}, api.ErrShape},
		{register{Length: 3, Taps: []int{}, State: []int{2}}, api.ErrShape},
		{register{Length: 3, Taps: []int{0, 3}, State: state}, api.ErrRange},
		{register{Length: 3, Taps: []int{-1, 0}, State: state}, api.ErrRange},
		{register{Length: 3, Taps: []int{math.MaxInt}, State: state}, api.ErrRange},
		{register{Length: 3, Taps: []int{math.MinInt}, State: state}, api.ErrRange},
		{register{Length: 3, Taps: []int{1, 3, 0}, State: state}, api.ErrRange},
		{register{Length: 3, Taps: []int{1, 0, 3}, State: state}, api.ErrOrder},
		{register{Length: 3, Taps: []int{0, 0}, State: state}, api.ErrOrder},
		{register{Length: 3, Taps: []int{0, 2, 1}}, api.ErrOrder},
		{register{Length: 3, Taps: []int{0, 1, 2, 2}, State: state}, api.ErrOrder},
		{register{Length: 3, Taps: []int{1}, State: []int{1}}, api.ErrForm},
		{register{Length: 3, Taps: []int{1, 2}, State: state}, api.ErrForm},
		{register{Length: 3, Taps: taps}, api.ErrShape},
		{register{Length: 3, Taps: taps, State: []int{2, 0}}, api.ErrShape},
		{register{Length: 3, Taps: taps, State: []int{0, 0, 0, 2}}, api.ErrShape},
		{register{Length: 3, Taps: taps, State: []int{0, 0, 2}}, api.ErrKind},
		{register{Length: 3, Taps: taps, State: []int{-1, 0, 0}}, api.ErrKind},
		{register{Length: 3, Taps: taps, State: []int{0, math.MinInt, 0}}, api.ErrKind},
	}
}

// wrongBits is for lists of which there are to be so many at most.
func wrongBits(most int) []wrong[[]int] {
	return []wrong[[]int]{
		{nil, api.ErrShape},
		{[]int{}, api.ErrShape},
		{make([]int, most+1), api.ErrLarge},
		{slices.Repeat([]int{2}, most+1), api.ErrLarge},
		{append(make([]int, most-1), 2), api.ErrKind},
		{[]int{0, -1}, api.ErrKind},
		{[]int{math.MaxInt}, api.ErrKind},
		{[]int{math.MinInt}, api.ErrKind},
	}
}

// wrongNumbers is numbers that are beyond a range, with this error.
func wrongNumbers(lo, hi int, e api.Errno) []wrong[int] {
	return []wrong[int]{{lo - 1, e}, {hi + 1, e}, {math.MinInt, e}, {math.MaxInt, e}}
}

func wrongOrders() []wrong[int] {
	return append(wrongNumbers(2, 6, api.ErrKind), wrong[int]{0, api.ErrKind}, wrong[int]{3, api.ErrKind}, wrong[int]{5, api.ErrKind}, wrong[int]{8, api.ErrKind}, wrong[int]{-2, api.ErrKind})
}

func wrongSymbols() []wrong[[]api.Gauss] {
	const most = 100000000
	return []wrong[[]api.Gauss]{
		{nil, api.ErrShape},
		{make([]api.Gauss, 201), api.ErrLarge},
		{slices.Repeat([]api.Gauss{g(most+1, 0)}, 201), api.ErrLarge},
		{[]api.Gauss{g(most, -most), g(most+1, 0)}, api.ErrRange},
		{[]api.Gauss{g(0, most+1)}, api.ErrRange},
		{[]api.Gauss{g(-most-1, 0)}, api.ErrRange},
		{[]api.Gauss{g(0, -most-1)}, api.ErrRange},
		{[]api.Gauss{g(math.MinInt, 0)}, api.ErrRange},
		{append(make([]api.Gauss, 199), g(0, math.MaxInt)), api.ErrRange},
	}
}

func wrongLayers() []wrong[[][]api.Gauss] {
	two, three, far := make([]api.Gauss, 2), make([]api.Gauss, 3), []api.Gauss{g(0, math.MinInt)}
	l := []wrong[[][]api.Gauss]{
		{nil, api.ErrShape},
		{[][]api.Gauss{two, two, two, two, two}, api.ErrLarge},
		{make([][]api.Gauss, 5), api.ErrLarge},
		{make([][]api.Gauss, 4), api.ErrShape},
		{[][]api.Gauss{two, three, far}, api.ErrClash},
		{[][]api.Gauss{two, far, three}, api.ErrRange}, // its own error is ahead of that of their number
		{[][]api.Gauss{three, three, two, nil}, api.ErrClash},
	}
	for _, w := range wrongSymbols() {
		l = append(l, wrong[[][]api.Gauss]{[][]api.Gauss{two, w.x}, w.e})
	}
	return l
}

func wrongMatrices() []wrong[[][]api.Gauss] {
	type row = []api.Gauss
	two, far := make(row, 2), row{g(1000, -1000), g(1001, 0)}
	return []wrong[[][]api.Gauss]{
		{nil, api.ErrShape},
		{make([][]api.Gauss, 5), api.ErrLarge},
		{[][]api.Gauss{two, two, two, two, far}, api.ErrLarge},
		{make([][]api.Gauss, 4), api.ErrShape},
		{[][]api.Gauss{{}, two}, api.ErrShape},
		{[][]api.Gauss{two, {}, far}, api.ErrShape},
		{[][]api.Gauss{two, {g(1001, 0)}}, api.ErrShape},
		{[][]api.Gauss{two, {g(1001, 0), g(0, 0), g(0, 0)}}, api.ErrShape},
		{[][]api.Gauss{make(row, 4), make(row, 5)}, api.ErrShape},
		{[][]api.Gauss{slices.Repeat(far, 3), two}, api.ErrLarge},
		{[][]api.Gauss{make(row, 5), make(row, 5)}, api.ErrLarge},
		{[][]api.Gauss{far, {}}, api.ErrRange},
		{[][]api.Gauss{two, {g(0, 0), g(0, 1001)}}, api.ErrRange},
		{[][]api.Gauss{two, {g(-1001, 0), g(0, 0)}}, api.ErrRange},
		{[][]api.Gauss{{g(0, -1001)}, two}, api.ErrRange},
		{[][]api.Gauss{{g(math.MinInt, 0)}}, api.ErrRange},
		{[][]api.Gauss{{g(0, math.MaxInt)}}, api.ErrRange},
	}
}

// wrongReceived is received symbols with the error of each of their fields, and of two of them at once.
func wrongReceived() []wrong[api.SymbolReceived] {
	right := rightArguments().X.Symbols
	var l []wrong[api.SymbolReceived]
	for _, w := range wrongOrders() {
		l = append(l, wrong[api.SymbolReceived]{api.SymbolReceived{Order: w.x, Gain: 0}, w.e})
		l = append(l, wrong[api.SymbolReceived]{api.SymbolReceived{Order: w.x, Gain: 1, Symbols: right}, w.e})
	}
	for _, w := range wrongNumbers(1, 10000000, api.ErrRange) {
		l = append(l, wrong[api.SymbolReceived]{api.SymbolReceived{Order: 2, Gain: w.x}, w.e})
		l = append(l, wrong[api.SymbolReceived]{api.SymbolReceived{Order: 4, Gain: w.x, Symbols: right}, w.e})
	}
	for _, w := range wrongSymbols() {
		l = append(l, wrong[api.SymbolReceived]{api.SymbolReceived{Order: 6, Gain: 10000000, Symbols: w.x}, w.e})
	}
	return l
}

func registers() []mistake {
	return mistakes("register", func(a *arguments) *api.SymbolRegister { return &a.R }, wrongRegisters())
}

func orders() []mistake {
	return mistakes("order", func(a *arguments) *int { return &a.Order }, wrongOrders())
}

func counts(lo, hi int) []mistake {
	return mistakes("count", func(a *arguments) *int { return &a.Count }, wrongNumbers(lo, hi, api.ErrRange))
}

func received() []mistake {
	return mistakes("received", func(a *arguments) *api.SymbolReceived { return &a.X }, wrongReceived())
}

func matrices() []mistake {
	return mistakes("a", func(a *arguments) *[][]api.Gauss { return &a.A }, wrongMatrices())
}

func TestErrorsOfRegisters(t *testing.T) {
	checkErrors(t, "CheckRegister", registers())
	checkErrors(t, "Next", registers())
	checkErrors(t, "Sequence", registers(), counts(1, 400))
	checkErrors(t, "Jumped", registers(), mistakes("steps", func(a *arguments) *int { return &a.Steps }, wrongNumbers(0, 1000000000, api.ErrRange)))
	checkErrors(t, "Period", registers())
	checkErrors(t, "Scrambled", registers(), mistakes("bits", func(a *arguments) *[]int { return &a.Bits }, wrongBits(400)))
}

func TestErrorsOfPoints(t *testing.T) {
	bits := func(a *arguments) *[]int { return &a.Bits }
	checkErrors(t, "LevelOf", mistakes("label", func(a *arguments) *[]int { return &a.Label }, wrongBits(3)))
	levels := []wrong[int]{{0, api.ErrForm}, {2, api.ErrForm}, {-2, api.ErrForm}, {5, api.ErrForm}, {-5, api.ErrForm}, {math.MinInt, api.ErrForm}, {math.MaxInt, api.ErrForm}}
	checkErrors(t, "BitsOf", counts(1, 3), mistakes("level", func(a *arguments) *int { return &a.Level }, levels))
	checkErrors(t, "Points", orders())
	checkErrors(t, "Modulated", orders(), mistakes("bits", bits, wrongBits(400)))
	// their number comes behind all other errors of them
	checkErrors(t, "Modulated", orders(), mistakes("bits", bits, []wrong[[]int]{
		{make([]int, 7), api.ErrShape},
		{make([]int, 1), api.ErrShape},
		{make([]int, 398), api.ErrShape},
		{[]int{0, 1, 2}, api.ErrKind},
		{make([]int, 402), api.ErrLarge},
	}))
	for count, beyond := range map[int]int{1: 3, 2: 5, 3: 9} {
		for level := -beyond; level <= beyond; level++ {
			_, e := symbol.BitsOf(count, level)
			want := api.OK
			if level%2 == 0 || level == beyond || level == -beyond {
				want = api.ErrForm
			}
			expect(t, "BitsOf", count, e, count, want)
		}
	}
}

func TestErrorsOfReceived(t *testing.T) {
	checkErrors(t, "Hard", received())
	checkErrors(t, "Soft", received())
	sent := mistakes("sent", func(a *arguments) *[]api.Gauss { return &a.Sent }, wrongSymbols())
	clash := []mistake{
		{"number", func(a *arguments) { a.Sent = append(a.Sent, g(0, 0)) }, api.ErrClash},
		{"number", func(a *arguments) { a.X.Symbols = append(a.X.Symbols, g(0, 0)) }, api.ErrClash},
	}
	large := []mistake{
		{"size", func(a *arguments) { a.Sent[0] = g(50000001, 0) }, api.ErrLarge},
		{"size", func(a *arguments) { a.Sent[0] = g(-50000001, 0) }, api.ErrLarge},
		{"size", func(a *arguments) { a.Sent[1] = g(0, 50000001) }, api.ErrLarge},
		{"size", func(a *arguments) { a.Sent[1] = g(0, -100000000) }, api.ErrLarge},
		{"size", func(a *arguments) { a.X.Gain, a.Sent[1] = 10000000, g(100000000, 0) }, api.ErrLarge},
	}
	checkErrors(t, "GreatestError", received(), sent)
	checkErrors(t, "GreatestError", clash, large)
	checkErrors(t, "GreatestError", received(), large)
}

func TestErrorsOfLayers(t *testing.T) {
	far := func(count int) []api.Gauss { return append(make([]api.Gauss, count-1), g(0, 100000001)) }
	symbols := []wrong[[]api.Gauss]{
		{nil, api.ErrShape},
		{far(3), api.ErrShape},
		{far(403), api.ErrShape},
		{make([]api.Gauss, 1), api.ErrShape},
		{make([]api.Gauss, 402), api.ErrLarge},
		{far(402), api.ErrLarge},
		{far(400), api.ErrRange},
		{[]api.Gauss{g(-100000001, 0), g(0, 0)}, api.ErrRange},
		{[]api.Gauss{g(0, 0), g(math.MinInt, 0)}, api.ErrRange},
	}
	checkErrors(t, "Layered", counts(1, 4), mistakes("symbols", func(a *arguments) *[]api.Gauss { return &a.Symbols }, symbols))
	checkErrors(t, "Unlayered", mistakes("layers", func(a *arguments) *[][]api.Gauss { return &a.Layers }, wrongLayers()))
}

func TestErrorsOfMatrices(t *testing.T) {
	checkErrors(t, "CheckMatrix", matrices())
	checkErrors(t, "Applied", matrices(), mistakes("layers", func(a *arguments) *[][]api.Gauss { return &a.Layers }, wrongLayers()))
	checkErrors(t, "Product", matrices(), mistakes("b", func(a *arguments) *[][]api.Gauss { return &a.B }, wrongMatrices()))
	one := []api.Gauss{g(1000, 0)}
	two, three := slices.Repeat(one, 2), slices.Repeat(one, 3)
	clash := []wrong[[][]api.Gauss]{
		{[][]api.Gauss{one}, api.ErrClash},
		{[][]api.Gauss{three, three}, api.ErrClash},
		{[][]api.Gauss{one, one, one, one}, api.ErrClash},
	}
	large := []mistake{{"sizes", func(a *arguments) {
		a.A = [][]api.Gauss{two}
		a.B = [][]api.Gauss{one, one}
		a.Layers = [][]api.Gauss{{g(99999999, 0)}, {g(0, 0)}}
	}, api.ErrLarge}}
	checkErrors(t, "Applied", mistakes("a", func(a *arguments) *[][]api.Gauss { return &a.A }, clash), large)
	checkErrors(t, "Product", mistakes("a", func(a *arguments) *[][]api.Gauss { return &a.A }, clash), large)
}

func TestErrorsOfDeterminants(t *testing.T) {
	rows := func(count, columns int) [][]api.Gauss {
		return slices.Repeat([][]api.Gauss{make([]api.Gauss, columns)}, count)
	}
	shapes := mistakes("a", func(a *arguments) *[][]api.Gauss { return &a.A }, []wrong[[][]api.Gauss]{
		{rows(1, 2), api.ErrClash},
		{rows(2, 1), api.ErrClash},
		{rows(3, 2), api.ErrClash},
		{rows(3, 4), api.ErrClash},
		{rows(4, 3), api.ErrClash},
		{rows(3, 3), api.ErrLarge},
		{rows(4, 4), api.ErrLarge},
	})
	ports := mistakes("ports", func(a *arguments) *[][]api.Gauss { return &a.Ports }, wrongLayers())
	clash := mistakes("ports", func(a *arguments) *[][]api.Gauss { return &a.Ports }, []wrong[[][]api.Gauss]{
		{slices.Repeat([][]api.Gauss{{g(100000000, 0)}}, 1), api.ErrClash},
		{slices.Repeat([][]api.Gauss{{g(100000000, 0)}}, 3), api.ErrClash},
		{slices.Repeat([][]api.Gauss{{g(100000000, 0)}}, 4), api.ErrClash},
	})
	singular := mistakes("a", func(a *arguments) *[][]api.Gauss { return &a.A }, []wrong[[][]api.Gauss]{
		{rows(2, 2), api.ErrSingular},
		{[][]api.Gauss{{g(1, 1), g(2, 0)}, {g(1, 0), g(1, -1)}}, api.ErrSingular},
		{[][]api.Gauss{{g(1000, 1000), g(1000, 1000)}, {g(1000, 1000), g(1000, 1000)}}, api.ErrSingular},
	})
	large := []mistake{
		{"gain", func(a *arguments) { a.A = [][]api.Gauss{{g(1000, 0), g(0, 0)}, {g(0, 0), g(4, 0)}} }, api.ErrLarge},
		{"gain", func(a *arguments) { a.A = [][]api.Gauss{{g(1000, 1000), g(0, 0)}, {g(0, 0), g(-1000, 1000)}} }, api.ErrLarge},
		{"part", func(a *arguments) { a.Ports = [][]api.Gauss{{g(100000000, 0)}, {g(0, 0)}} }, api.ErrLarge},
	}
	checkErrors(t, "Determinant", matrices())
	checkErrors(t, "Determinant", shapes)
	checkErrors(t, "Equalized", matrices(), ports)
	checkErrors(t, "Equalized", shapes, ports, singular)
	checkErrors(t, "Equalized", shapes, clash, singular)
	checkErrors(t, "Equalized", clash, large[:2])
	checkErrors(t, "Equalized", singular, large[2:])
	_, _, e := symbol.Equalized([][]api.Gauss{{g(0, 0)}}, [][]api.Gauss{{g(1, 0)}})
	expect(t, "Equalized by 0", 0, e, 0, api.ErrSingular)
}
