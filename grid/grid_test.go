package grid_test

import (
	"math"
	"slices"
	"strings"
	"testing"

	"downtilt/api"
	"downtilt/grid"
)

// spoil is a change that makes a carrier wrong: what it touches, and what CheckCarrier then returns.
type spoil struct {
	touches string
	change  func(c *api.GridCarrier)
	mark    api.GridMark
	e       api.Errno
}

// spoils are in the order in which CheckCarrier lists the errors. They are of the carrier that mixed returns.
func spoils() []spoil {
	none := api.GridMark{}
	part := func(i int) api.GridMark { return api.GridMark{List: api.GridParts, Number: i} }
	signal := func(i int) api.GridMark { return api.GridMark{List: api.GridSignals, Number: i} }
	return []spoil{
		{"name", func(c *api.GridCarrier) { c.Name = "" }, none, api.ErrName},
		{"cell", func(c *api.GridCarrier) { c.Cell = -1 }, none, api.ErrRange},
		{"width", func(c *api.GridCarrier) { c.Width = 601 }, none, api.ErrRange},
		{"parts", func(c *api.GridCarrier) { c.Parts = nil }, none, api.ErrShape},
		{"parts", func(c *api.GridCarrier) { c.Parts = make([]api.GridPart, 5) }, none, api.ErrLarge},
		{"parts mu 0", func(c *api.GridCarrier) { c.Parts[0].Mu = 4 }, part(0), api.ErrRange},
		{"parts first 0", func(c *api.GridCarrier) { c.Parts[0].First = 48 }, part(0), api.ErrRange},
		{"parts first 0", func(c *api.GridCarrier) { c.Parts[0].First = 1 }, part(0), api.ErrBreak},
		{"parts mu 1", func(c *api.GridCarrier) { c.Parts[1].Mu = -1 }, part(1), api.ErrRange},
		{"parts first 1", func(c *api.GridCarrier) { c.Parts[1].First = -2 }, part(1), api.ErrRange},
		{"parts blocks 1", func(c *api.GridCarrier) { c.Parts[1].Blocks = 25 }, part(1), api.ErrRange},
		{"parts first 1", func(c *api.GridCarrier) { c.Parts[1].First = 23 }, part(1), api.ErrForm},
		{"parts blocks 1", func(c *api.GridCarrier) { c.Parts[1].Blocks = 2 }, part(1), api.ErrBreak},
		{"signals", func(c *api.GridCarrier) { c.Signals = make([]api.GridSignal, 13) }, none, api.ErrLarge},
		{"signals 0", func(c *api.GridCarrier) { c.Signals[0].Kind = -1 }, signal(0), api.ErrKind},
		{"signals 0", func(c *api.GridCarrier) { c.Signals[0].Shift = 1 }, signal(0), api.ErrRange},
		{"signals kind", func(c *api.GridCarrier) { c.Signals[4].Kind = api.GridKinds }, signal(4), api.ErrKind},
		{"signals part", func(c *api.GridCarrier) { c.Signals[4].Part = 2 }, signal(4), api.ErrMissing},
		{"signals period", func(c *api.GridCarrier) { c.Signals[4].Period = 0 }, signal(4), api.ErrRange},
		{"signals period", func(c *api.GridCarrier) { c.Signals[4].Period = 3 }, signal(4), api.ErrForm},
		{"signals offset", func(c *api.GridCarrier) { c.Signals[4].Offset = -1 }, signal(4), api.ErrRange},
		{"signals slot", func(c *api.GridCarrier) { c.Signals[4].Slot = 2 }, signal(4), api.ErrRange},
		{"signals symbol", func(c *api.GridCarrier) { c.Signals[4].Symbol = 14 }, signal(4), api.ErrRange},
		{"signals symbols", func(c *api.GridCarrier) { c.Signals[4].Symbols = 15 }, signal(4), api.ErrRange},
		{"signals block", func(c *api.GridCarrier) { c.Signals[4].Block = 1 }, signal(4), api.ErrRange},
		{"signals blocks", func(c *api.GridCarrier) { c.Signals[4].Blocks = 2 }, signal(4), api.ErrRange},
		{"signals step", func(c *api.GridCarrier) { c.Signals[4].Step = 13 }, signal(4), api.ErrRange},
		{"signals shift", func(c *api.GridCarrier) { c.Signals[4].Shift = -1 }, signal(4), api.ErrRange},
		{"signals symbol", func(c *api.GridCarrier) { c.Signals[4].Symbol = 13 }, signal(4), api.ErrBreak},
	}
}

func TestCheckCarrierFindsEachError(t *testing.T) {
	mustBeRight(t, example())
	mustBeRight(t, mixed())
	for i, x := range spoils() {
		c := mixed()
		x.change(&c)
		m, e := grid.CheckCarrier(c)
		if m != x.mark || e != x.e {
			t.Errorf("spoil %d (%s): %v, %d, want %v, %d", i, x.touches, m, e, x.mark, x.e)
		}
	}
}

func TestCheckCarrierReturnsTheErrorThatIsListedFirst(t *testing.T) {
	all := spoils()
	for i, x := range all {
		for j, y := range all[i+1:] {
			// a change of the same list or number would undo the other one
			if strings.HasPrefix(x.touches, y.touches) || strings.HasPrefix(y.touches, x.touches) {
				continue
			}
			c := mixed()
			y.change(&c)
			x.change(&c)
			m, e := grid.CheckCarrier(c)
			if m != x.mark || e != x.e {
				t.Errorf("spoils %d and %d: %v, %d, want %v, %d", i, i+1+j, m, e, x.mark, x.e)
			}
		}
	}
}

func TestErrorsOfOneItem(t *testing.T) {
	// a part that is wrong in all ways, and one that is but in its form and its end
	for _, x := range []struct {
		p api.GridPart
		e api.Errno
	}{
		{api.GridPart{Mu: 4, First: 1, Blocks: 24}, api.ErrRange},
		{api.GridPart{Mu: 3, First: 1, Blocks: 25}, api.ErrRange},
		{api.GridPart{Mu: 3, First: 1, Blocks: 24}, api.ErrForm},
		{api.GridPart{Mu: 3, First: 8, Blocks: 24}, api.ErrBreak},
		{api.GridPart{Mu: 3, First: 0, Blocks: 1}, api.ErrBreak},
		{api.GridPart{Mu: 1, First: 26, Blocks: 1}, api.ErrBreak},
		{api.GridPart{Mu: 0, First: 36, Blocks: 1}, api.OK},
		{api.GridPart{Mu: 0, First: 37, Blocks: 1}, api.ErrBreak},
		{api.GridPart{Mu: 0, First: 47, Blocks: 1}, api.ErrBreak},
		{api.GridPart{Mu: 0, First: 48, Blocks: 1}, api.ErrRange},
		{api.GridPart{Mu: 0, First: 0, Blocks: 0}, api.ErrRange},
		{api.GridPart{Mu: math.MinInt, First: 0, Blocks: 1}, api.ErrRange},
		{api.GridPart{Mu: 3, First: 0, Blocks: math.MaxInt}, api.ErrRange},
	} {
		c := api.GridCarrier{Name: "c", Width: 48, Parts: []api.GridPart{x.p}}
		if _, e := grid.CheckCarrier(c); e != x.e {
			t.Errorf("CheckCarrier with %v: %d, want %d", x.p, e, x.e)
		}
	}
	// of a signal whose period is no divisor and whose offset is out of range the form is first
	c := mixed()
	c.Signals[4].Period, c.Signals[4].Offset = 3, 5
	_, e := grid.CheckCarrier(c)
	expect(t, "form and offset", 0, e, 0, api.ErrForm)
	c.Signals[4].Period = 10241
	_, e = grid.CheckCarrier(c)
	expect(t, "a period beyond", 0, e, 0, api.ErrRange)
	c.Signals[4].Period, c.Signals[4].Offset = 10240, 10239
	_, e = grid.CheckCarrier(c)
	expect(t, "the longest period", 0, e, 0, api.OK)
	c.Signals[4].Offset = 10240
	_, e = grid.CheckCarrier(c)
	expect(t, "an offset beyond", 0, e, 0, api.ErrRange)
	// a break of symbols does not hide a range behind it
	c = example()
	c.Signals[3].Symbol, c.Signals[3].Symbols, c.Signals[3].Step = 13, 2, 0
	_, e = grid.CheckCarrier(c)
	expect(t, "break and step", 0, e, 0, api.ErrRange)
	c.Signals[3].Step = 6
	_, e = grid.CheckCarrier(c)
	expect(t, "break of symbols", 0, e, 0, api.ErrBreak)
	c = example()
	c.Signals[3].Block = 1
	_, e = grid.CheckCarrier(c)
	expect(t, "break of blocks", 0, e, 0, api.ErrBreak)
	c.Signals[3].Block, c.Signals[3].Symbols, c.Signals[3].Shift = math.MaxInt, math.MaxInt, math.MaxInt
	_, e = grid.CheckCarrier(c)
	expect(t, "numbers whose sums do not fit", 0, e, 0, api.ErrRange)
}

func TestEndsOfRanges(t *testing.T) {
	c := api.GridCarrier{
		Name: "a-2345678901Z", Cell: 1007, Width: 600,
		Parts: []api.GridPart{{Mu: 0, First: 599 - 11, Blocks: 1}, {Mu: 1, First: 24, Blocks: 24}, {Mu: 3, First: 504, Blocks: 1}, {Mu: 0, First: 0, Blocks: 24}},
	}
	s := api.GridSignal{Kind: api.GridData, Part: 2, Period: 10240, Offset: 10239, Slot: 7, Symbol: 13, Symbols: 1, Blocks: 1, Step: 12, Shift: 11}
	for range api.MaxGridSignals {
		c.Signals = append(c.Signals, s)
	}
	_, e := grid.CheckCarrier(c)
	expect(t, "a name of 13", 0, e, 0, api.ErrName)
	c.Name = c.Name[:12]
	mustBeRight(t, c)
	c.Cell = 1008
	_, e = grid.CheckCarrier(c)
	expect(t, "the cell 1008", 0, e, 0, api.ErrRange)
	c.Cell = 0
	c.Width = 0
	_, e = grid.CheckCarrier(c)
	expect(t, "the width 0", 0, e, 0, api.ErrRange)
	m, e := grid.CheckCarrier(api.GridCarrier{Name: "c", Width: 1, Parts: []api.GridPart{{Blocks: 1}}})
	expect(t, "the width 1", m, e, api.GridMark{List: api.GridParts}, api.ErrBreak)
	_, e = grid.CheckCarrier(api.GridCarrier{Name: "c", Width: 12, Parts: []api.GridPart{{Blocks: 1}}})
	expect(t, "no signals", 0, e, 0, api.OK)
}

func TestNames(t *testing.T) {
	for _, x := range []struct {
		name string
		e    api.Errno
	}{
		{"a", api.OK}, {"Z", api.OK}, {"a-", api.OK}, {"z9-A", api.OK}, {"abcdefghijkl", api.OK},
		{"abcdefghijklm", api.ErrName}, {"", api.ErrName}, {"9", api.ErrName}, {"-a", api.ErrName},
		{"a b", api.ErrName}, {"a_b", api.ErrName}, {"\u00e9", api.ErrName}, {"a\u00e9", api.ErrName}, {"a\n", api.ErrName}, {"a\xff", api.ErrName}, {"[", api.ErrName}, {"a`", api.ErrName}, {"a:", api.ErrName},
	} {
		c := example()
		c.Name = x.name
		if _, e := grid.CheckCarrier(c); e != x.e {
			t.Errorf("name %q: %d, want %d", x.name, e, x.e)
		}
	}
}

func TestUnitsOf(t *testing.T) {
	c := mixed()
	c.Parts = append(c.Parts, api.GridPart{Mu: 1, First: 10, Blocks: 1}, api.GridPart{Mu: 0, First: 1, Blocks: 3})
	mustBeRight(t, c)
	for i, want := range []api.Range{{Lo: 0, Hi: 47}, {Lo: 24, Hi: 47}, {Lo: 10, Hi: 33}, {Lo: 1, Hi: 36}} {
		r, e := grid.UnitsOf(c, i)
		expect(t, "UnitsOf", r, e, want, api.OK)
	}
	for _, part := range []int{-1, 4, math.MaxInt, math.MinInt} {
		r, e := grid.UnitsOf(c, part)
		expect(t, "UnitsOf of none", r, e, api.Range{}, api.ErrMissing)
	}
	r, e := grid.UnitsOf(wrong(), -1)
	expect(t, "UnitsOf of a wrong carrier", r, e, api.Range{}, api.ErrName)
}

func TestCheckCarrierLooksAtPartsAheadOfSignals(t *testing.T) {
	c := mixed()
	c.Parts[1].First = 25
	c.Signals = slices.Repeat(c.Signals, 3)
	m, e := grid.CheckCarrier(c)
	expect(t, "a part ahead of too many signals", m, e, api.GridMark{List: api.GridParts, Number: 1}, api.ErrForm)
}
