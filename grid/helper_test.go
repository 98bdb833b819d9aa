package grid_test

import (
	"math"
	"math/rand"
	"reflect"
	"testing"

	"downtilt/api"
	"downtilt/grid"
)

// exampleText is the carrier of the chapter's examples.
const exampleText = "carrier c 4 48\npart 0 0 4\nsignal sync 0 20 0 0 2 2 0 2 1 0\nsignal broadcast 0 20 0 0 4 2 0 2 1 0\nsignal control 0 1 0 - 0 1 0 4 1 0\nsignal reference 0 5 0 - 8 1 0 4 6 1\n"

// example is the carrier of the chapter's examples, written out so that it does not depend on Parse.
func example() api.GridCarrier {
	return api.GridCarrier{
		Name: "c", Cell: 4, Width: 48,
		Parts: []api.GridPart{{Mu: 0, First: 0, Blocks: 4}},
		Signals: []api.GridSignal{
			{Kind: api.GridSync, Period: 20, Symbol: 2, Symbols: 2, Blocks: 2, Step: 1},
			{Kind: api.GridBroadcast, Period: 20, Symbol: 4, Symbols: 2, Blocks: 2, Step: 1},
			{Kind: api.GridControl, Period: 1, Slot: api.GridEach, Symbols: 1, Blocks: 4, Step: 1},
			{Kind: api.GridReference, Period: 5, Slot: api.GridEach, Symbol: 8, Symbols: 1, Blocks: 4, Step: 6, Shift: 1},
		},
	}
}

// mixed is the carrier of the third example: a part of another numerology, and data there.
func mixed() api.GridCarrier {
	c := example()
	c.Parts = append(c.Parts, api.GridPart{Mu: 1, First: 24, Blocks: 1})
	c.Signals = append(c.Signals, api.GridSignal{Kind: api.GridData, Part: 1, Period: 1, Symbols: 2, Blocks: 1, Step: 1})
	return c
}

// wrong is a carrier that each function refuses with ErrName, ahead of all other errors.
func wrong() api.GridCarrier {
	c := example()
	c.Name = ""
	return c
}

// same compares results; a nil list and an empty one are the same.
func same(a, b any) bool {
	x, y := reflect.ValueOf(a), reflect.ValueOf(b)
	if x.IsValid() && y.IsValid() && x.Type() == y.Type() && x.Kind() == reflect.Slice && x.Len() == 0 && y.Len() == 0 {
		return true
	}
	if c, ok := a.(api.GridCarrier); ok {
		if d, ok := b.(api.GridCarrier); ok {
			return c.Name == d.Name && c.Cell == d.Cell && c.Width == d.Width && same(c.Parts, d.Parts) && same(c.Signals, d.Signals)
		}
	}
	return reflect.DeepEqual(a, b)
}

// expect compares a result and its error with what they should be.
func expect(t *testing.T, what string, got any, e api.Errno, want any, f api.Errno) {
	t.Helper()
	if !same(got, want) || e != f {
		t.Errorf("%s: %v, error %d; want %v, error %d", what, got, e, want, f)
	}
}

// copyOf is a carrier that shares nothing with c.
func copyOf(c api.GridCarrier) api.GridCarrier {
	c.Parts = append([]api.GridPart(nil), c.Parts...)
	c.Signals = append([]api.GridSignal(nil), c.Signals...)
	return c
}

// span is how many subframes random carriers repeat behind: all their periods divide it.
const span = 40

// randomCarrier is a right carrier, small enough for the slow functions below.
func randomCarrier(r *rand.Rand) api.GridCarrier {
	c := api.GridCarrier{Name: "r", Cell: r.Intn(api.MaxCell), Width: 40 + r.Intn(100)}
	for range 1 + r.Intn(3) {
		p := api.GridPart{Mu: r.Intn(4), Blocks: 1 + r.Intn(3)}
		most := c.Width - 12*p.Blocks<<p.Mu
		for most < 0 {
			p.Mu--
			most = c.Width - 12*p.Blocks<<p.Mu
		}
		p.First = r.Intn(most+1) >> p.Mu << p.Mu
		c.Parts = append(c.Parts, p)
	}
	for range r.Intn(7) {
		c.Signals = append(c.Signals, randomSignal(r, c.Parts))
	}
	return c
}

func randomSignal(r *rand.Rand, parts []api.GridPart) api.GridSignal {
	s := api.GridSignal{Kind: r.Intn(api.GridKinds), Part: r.Intn(len(parts))}
	p := parts[s.Part]
	s.Period = []int{1, 1, 1, 2, 2, 4, 5, 8, 10, 20, 40}[r.Intn(11)]
	s.Offset = r.Intn(s.Period)
	s.Slot = r.Intn(1<<p.Mu+1) - 1
	s.Symbol = r.Intn(14)
	s.Symbols = 1 + r.Intn(min(4, 14-s.Symbol))
	s.Block = r.Intn(p.Blocks)
	s.Blocks = 1 + r.Intn(p.Blocks-s.Block)
	s.Step = max(1, r.Intn(16)-3)
	s.Shift = r.Intn(s.Step)
	return s
}

func randomAllocation(r *rand.Rand, c api.GridCarrier) api.GridAllocation {
	s := randomSignal(r, c.Parts)
	return api.GridAllocation{Part: s.Part, Subframe: r.Intn(span), Slot: max(s.Slot, 0), Symbol: s.Symbol, Symbols: s.Symbols, Block: s.Block, Blocks: s.Blocks}
}

// point is a tick and a unit of a subframe.
type point struct{ tick, unit int }

// elements lists the elements that a signal has in a subframe, as the definitions tell them.
func elements(c api.GridCarrier, s api.GridSignal, subframe int) []api.GridPlace {
	var l []api.GridPlace
	if subframe%s.Period != s.Offset {
		return nil
	}
	p := c.Parts[s.Part]
	for slot := range 1 << p.Mu {
		for symbol := range 14 {
			for carrier := range 12 * p.Blocks {
				if (s.Slot == -1 || s.Slot == slot) && symbol >= s.Symbol && symbol < s.Symbol+s.Symbols &&
					carrier/12 >= s.Block && carrier/12 < s.Block+s.Blocks && (carrier-s.Shift-c.Cell)%s.Step == 0 {
					l = append(l, api.GridPlace{Part: s.Part, Subframe: subframe, Slot: slot, Symbol: symbol, Carrier: carrier})
				}
			}
		}
	}
	return l
}

// points lists what an element covers.
func points(c api.GridCarrier, x api.GridPlace) []point {
	p := c.Parts[x.Part]
	length := 8 >> p.Mu
	var l []point
	for t := range length {
		for u := range 1 << p.Mu {
			l = append(l, point{(14*x.Slot+x.Symbol)*length + t, p.First + x.Carrier<<p.Mu + u})
		}
	}
	return l
}

// covered is all that a signal covers in a subframe.
func covered(c api.GridCarrier, s api.GridSignal, subframe int) map[point]bool {
	m := map[point]bool{}
	for _, x := range elements(c, s, subframe) {
		for _, q := range points(c, x) {
			m[q] = true
		}
	}
	return m
}

// firstOf is the least tick, and there the least unit, of both.
func firstOf(a, b map[point]bool) (point, bool) {
	first, found := point{math.MaxInt, 0}, false
	for q := range a {
		if b[q] && (q.tick < first.tick || q.tick == first.tick && q.unit < first.unit) {
			first, found = q, true
		}
	}
	return first, found
}

// asSignal is the signal that has just the elements of an allocation.
func asSignal(x api.GridAllocation) api.GridSignal {
	return api.GridSignal{Part: x.Part, Period: api.GridSubframes, Offset: x.Subframe, Slot: x.Slot, Symbol: x.Symbol, Symbols: x.Symbols, Block: x.Block, Blocks: x.Blocks, Step: 1}
}

// mustBeRight stops a test whose carrier is not right.
func mustBeRight(t *testing.T, c api.GridCarrier) {
	t.Helper()
	if m, e := grid.CheckCarrier(c); e != api.OK {
		t.Fatalf("CheckCarrier(%v): %v, %d", c, m, e)
	}
}
