package grid_test

import (
	"math"
	"math/rand"
	"reflect"
	"strings"
	"testing"

	"downtilt/api"
	"downtilt/grid"
)

// everything calls each function with the arguments, and returns the results: each list of them ends with its error.
func everything(c api.GridCarrier, a, b int, x api.GridPlace, l []api.GridAllocation, y api.GridAllocation, w api.GridWant, bits []int, text string) [][]any {
	return [][]any{
		list(grid.CheckCarrier(c)),
		list(grid.UnitsOf(c, a)),
		list(grid.Occurs(c, a, b)),
		list(grid.NextOf(c, a, b)),
		{grid.CheckPlace(c, x)},
		list(grid.CoverOf(c, x)),
		list(grid.OwnerOf(c, x)),
		list(grid.ElementsOf(c, a, b)),
		list(grid.Share(c, a, b)),
		list(grid.FirstShared(c)),
		list(grid.Missing(c)),
		list(grid.BitsOf(c)),
		list(grid.FromBits(text, bits)),
		list(grid.CheckAllocations(c, l)),
		list(grid.RoomOf(c, y)),
		list(grid.FreeBlocks(c, l, y)),
		list(grid.FirstFit(c, l, w)),
		list(grid.Print(c)),
		list(grid.ParseCarrier(text)),
		{grid.FormatCarrier(c), api.OK},
	}
}

func list[T any](x T, e api.Errno) []any {
	return []any{x, e}
}

// number is one that is often at an end of a range, or far beyond.
func number(r *rand.Rand) int {
	ends := []int{0, 1, 2, 3, 4, 8, 12, 13, 14, 24, 48, 599, 600, 1007, 1008, 10239, 10240, -1, -2, math.MaxInt, math.MinInt, math.MaxInt - 1, 1 << 40}
	return ends[r.Intn(len(ends))]
}

func fill(r *rand.Rand, x any) {
	v := reflect.ValueOf(x).Elem()
	for i := range v.NumField() {
		if v.Field(i).Kind() == reflect.Int && r.Intn(3) > 0 {
			v.Field(i).SetInt(int64(number(r)))
		}
	}
}

// wildCarrier is now and then a right carrier, and otherwise one with any numbers.
func wildCarrier(r *rand.Rand) api.GridCarrier {
	c := randomCarrier(r)
	switch r.Intn(6) {
	case 0:
		fill(r, &c)
	case 1:
		fill(r, &c.Parts[r.Intn(len(c.Parts))])
	case 2:
		for i := range c.Signals {
			fill(r, &c.Signals[i])
		}
	case 3:
		c.Parts = make([]api.GridPart, r.Intn(7))
		for i := range c.Parts {
			fill(r, &c.Parts[i])
		}
	}
	return c
}

// TestNothingPanics calls all functions with any arguments; beside an error all other results are zero (P1, R1, R2), and the same call has the same results and changes no argument (R3, R4).
func TestNothingPanics(t *testing.T) {
	r := rand.New(rand.NewSource(9))
	for range 3000 {
		c := wildCarrier(r)
		var x api.GridPlace
		fill(r, &x)
		var w api.GridWant
		fill(r, &w)
		l := make([]api.GridAllocation, r.Intn(23))
		for i := range l {
			if l[i] = randomAllocation(r, randomCarrier(r)); r.Intn(9) == 0 {
				fill(r, &l[i])
			}
		}
		y := randomAllocation(r, randomCarrier(r))
		if r.Intn(2) == 0 {
			fill(r, &y)
		}
		bits := make([]int, r.Intn(400))
		for i := range bits {
			bits[i] = r.Intn(2)
		}
		text := wildText(r)
		a, b := number(r), number(r)
		d, k, n := copyOf(c), append([]api.GridAllocation(nil), l...), append([]int(nil), bits...)
		first := everything(c, a, b, x, l, y, w, bits, text)
		for i, results := range first {
			e := results[len(results)-1].(api.Errno)
			if e != api.OK && i > 0 && i != 13 && len(results) > 1 && !isZero(results[0]) {
				t.Fatalf("function %d: %v beside the error %d", i, results[0], e)
			}
		}
		if !same(c, d) || !same(l, k) || !same(bits, n) {
			t.Fatal("an argument was changed")
		}
		if second := everything(d, a, b, x, k, y, w, n, text); !reflect.DeepEqual(first, second) {
			t.Fatalf("two calls differ: %v, %v", first, second)
		}
	}
}

func isZero(x any) bool {
	v := reflect.ValueOf(x)
	return v.IsZero() || v.Kind() == reflect.Slice && v.Len() == 0
}

func wildText(r *rand.Rand) string {
	words := []string{"carrier", "part", "signal", "data", "c", "0", "1", "12", "-", "00", ";", "\n", "\xff", "99999", "\t", "sync"}
	var s []string
	for range r.Intn(30) {
		s = append(s, words[r.Intn(len(words))])
	}
	return strings.Join(s, " ")
}

// TestTextsNeverPanic parses texts that were changed at random.
func TestTextsNeverPanic(t *testing.T) {
	r := rand.New(rand.NewSource(10))
	for range 5000 {
		b := []byte(exampleText)
		for range 1 + r.Intn(4) {
			b[r.Intn(len(b))] = " \n\t-0129apz;\x00\xff"[r.Intn(14)]
		}
		c, m, e := grid.Parse(string(b))
		if e == api.OK != (m == api.TextMark{}) {
			t.Fatalf("the mark %v beside the error %d of %q", m, e, b)
		}
		if e != api.OK && !same(c, api.GridCarrier{}) {
			t.Fatalf("the carrier %v beside the error %d of %q", c, e, b)
		}
		if e == api.OK {
			mustBeRight(t, c)
		}
	}
}

// TestResultsAreNew changes results, and looks whether arguments or later results change with them (R3).
func TestResultsAreNew(t *testing.T) {
	c := mixed()
	bits, _ := grid.BitsOf(c)
	d, _ := grid.FromBits("c", bits)
	d.Parts[0].Blocks, d.Signals[0].Kind = 9, 5
	clear(bits)
	again, _ := grid.BitsOf(c)
	e, f := grid.FromBits("c", again)
	expect(t, "FromBits again", e, f, mixed(), api.OK)
	x := api.GridAllocation{Subframe: 1, Symbol: 2, Symbols: 2, Blocks: 1}
	runs, _ := grid.FreeBlocks(c, nil, x)
	clear(runs)
	runs, f = grid.FreeBlocks(c, nil, x)
	expect(t, "FreeBlocks again", runs, f, []api.Range{{Lo: 0, Hi: 3}}, api.OK)
	p, _, _ := grid.Parse(exampleText)
	p.Parts[0].Blocks, p.Signals[0].Kind = 9, 5
	p, _, f = grid.Parse(exampleText)
	expect(t, "Parse again", p, f, example(), api.OK)
	// lists with room behind their ends: nothing is written there
	spare := make([]api.GridSignal, 5, 20)
	copy(spare, c.Signals)
	c.Signals = spare
	l := make([]api.GridAllocation, 1, 20)
	l[0] = x
	everything(c, 0, 1, api.GridPlace{}, l, x, api.GridWant{Symbols: 1, Blocks: 1}, again, exampleText)
	for _, s := range spare[5:20] {
		if s != (api.GridSignal{}) {
			t.Error("a signal was written behind the end")
		}
	}
	for _, y := range l[1:20] {
		if y != (api.GridAllocation{}) {
			t.Error("an allocation was written behind the end")
		}
	}
}

// TestWorstCaseIsQuick looks through as much as FirstFit may be asked to.
func TestWorstCaseIsQuick(t *testing.T) {
	c := api.GridCarrier{Name: "c", Width: 600, Parts: []api.GridPart{{Mu: 3, First: 0, Blocks: 6}, {Mu: 0, First: 0, Blocks: 24}}}
	for range 11 {
		c.Signals = append(c.Signals, api.GridSignal{Kind: api.GridReference, Part: 1, Period: 1, Slot: api.GridEach, Symbols: 14, Blocks: 24, Step: 2})
	}
	c.Signals = append(c.Signals, api.GridSignal{Kind: api.GridGuard, Part: 1, Period: 1, Slot: api.GridEach, Symbols: 14, Blocks: 24, Step: 12})
	x, e := grid.FirstFit(c, nil, api.GridWant{To: 100, Symbols: 14, Blocks: 6})
	expect(t, "FirstFit", x, e, api.GridAllocation{}, api.ErrNone)
}
