package grid_test

import (
	"math"
	"math/rand"
	"testing"

	"downtilt/api"
	"downtilt/grid"
)

func TestOccursNextAndElements(t *testing.T) {
	c := example()
	for _, x := range []struct {
		signal, subframe int
		is               bool
		next, elements   int
	}{
		{0, 0, true, 0, 48}, {0, 1, false, 20, 0}, {0, 20, true, 20, 48}, {0, 10221, false, 0, 0}, {0, 10239, false, 0, 0},
		{2, 7, true, 7, 48}, {2, 10239, true, 10239, 48}, {3, 5, true, 5, 8}, {3, 6, false, 10, 0}, {3, 10236, false, 0, 0},
	} {
		is, e := grid.Occurs(c, x.signal, x.subframe)
		expect(t, "Occurs", is, e, x.is, api.OK)
		next, e := grid.NextOf(c, x.signal, x.subframe)
		expect(t, "NextOf", next, e, x.next, api.OK)
		n, e := grid.ElementsOf(c, x.signal, x.subframe)
		expect(t, "ElementsOf", n, e, x.elements, api.OK)
	}
	c.Signals[0].Period, c.Signals[0].Offset = 10240, 3
	for subframe, want := range map[int]int{0: 3, 3: 3, 4: 3, 10239: 3} {
		next, e := grid.NextOf(c, 0, subframe)
		expect(t, "NextOf of a signal that stands once", next, e, want, api.OK)
	}
}

func TestErrorsOfMoments(t *testing.T) {
	for _, x := range []struct {
		c                api.GridCarrier
		signal, subframe int
		e                api.Errno
	}{
		{wrong(), -1, -1, api.ErrName}, {example(), -1, -1, api.ErrMissing}, {example(), 4, 0, api.ErrMissing},
		{example(), 0, -1, api.ErrRange}, {example(), 3, 10240, api.ErrRange}, {example(), math.MaxInt, math.MinInt, api.ErrMissing},
	} {
		is, e := grid.Occurs(x.c, x.signal, x.subframe)
		expect(t, "Occurs", is, e, false, x.e)
		n, e := grid.NextOf(x.c, x.signal, x.subframe)
		expect(t, "NextOf", n, e, 0, x.e)
		n, e = grid.ElementsOf(x.c, x.signal, x.subframe)
		expect(t, "ElementsOf", n, e, 0, x.e)
	}
}

func TestOccurrencesArePeriodApart(t *testing.T) {
	r := rand.New(rand.NewSource(1))
	for range 50 {
		c := randomCarrier(r)
		for i, s := range c.Signals {
			last := -1
			for n := range 3 * span {
				is, e := grid.Occurs(c, i, n)
				expect(t, "Occurs", is, e, n%s.Period == s.Offset, api.OK)
				if is && last >= 0 && n-last != s.Period {
					t.Fatalf("signal %v stands in %d and then in %d", s, last, n)
				}
				if is {
					last = n
				}
				next, e := grid.NextOf(c, i, n)
				want := n
				for want%s.Period != s.Offset {
					want++
				}
				expect(t, "NextOf", next, e, want, api.OK)
			}
		}
	}
}

func TestPlaces(t *testing.T) {
	c := mixed()
	for _, x := range []struct {
		x api.GridPlace
		e api.Errno
	}{
		{api.GridPlace{}, api.OK},
		{api.GridPlace{Subframe: 10239, Symbol: 13, Carrier: 47}, api.OK},
		{api.GridPlace{Part: 1, Slot: 1, Carrier: 11}, api.OK},
		{api.GridPlace{Part: 2, Subframe: -1, Slot: 9}, api.ErrMissing},
		{api.GridPlace{Part: -1, Subframe: -1}, api.ErrMissing},
		{api.GridPlace{Subframe: 10240}, api.ErrRange},
		{api.GridPlace{Subframe: -1}, api.ErrRange},
		{api.GridPlace{Slot: 1}, api.ErrRange},
		{api.GridPlace{Slot: -1}, api.ErrRange},
		{api.GridPlace{Part: 1, Slot: 2}, api.ErrRange},
		{api.GridPlace{Symbol: 14}, api.ErrRange},
		{api.GridPlace{Symbol: -1}, api.ErrRange},
		{api.GridPlace{Carrier: 48}, api.ErrRange},
		{api.GridPlace{Carrier: -1}, api.ErrRange},
		{api.GridPlace{Part: 1, Carrier: 12}, api.ErrRange},
	} {
		if e := grid.CheckPlace(c, x.x); e != x.e {
			t.Errorf("CheckPlace(%v): %d, want %d", x.x, e, x.e)
		}
		if x.e != api.OK {
			cover, e := grid.CoverOf(c, x.x)
			expect(t, "CoverOf", cover, e, api.GridCover{}, x.e)
			n, e := grid.OwnerOf(c, x.x)
			expect(t, "OwnerOf", n, e, 0, x.e)
		}
	}
	if e := grid.CheckPlace(wrong(), api.GridPlace{Part: -1}); e != api.ErrName {
		t.Errorf("CheckPlace of a wrong carrier: %d", e)
	}
	_, e := grid.CoverOf(wrong(), api.GridPlace{Part: -1})
	expect(t, "CoverOf of a wrong carrier", 0, e, 0, api.ErrName)
	_, e = grid.OwnerOf(wrong(), api.GridPlace{Part: -1})
	expect(t, "OwnerOf of a wrong carrier", 0, e, 0, api.ErrName)
}

func TestCoverOf(t *testing.T) {
	c := mixed()
	c.Width = 600
	c.Parts = append(c.Parts, api.GridPart{Mu: 2, First: 52, Blocks: 2}, api.GridPart{Mu: 3, First: 200, Blocks: 4})
	for _, x := range []struct {
		x                      api.GridPlace
		tick, last, unit, wide int
	}{
		{api.GridPlace{Symbol: 2, Carrier: 23}, 16, 23, 23, 23},
		{api.GridPlace{Symbol: 13, Carrier: 47}, 104, 111, 47, 47},
		{api.GridPlace{Part: 1, Slot: 1, Symbol: 1, Carrier: 2}, 60, 63, 28, 29},
		{api.GridPlace{Part: 2, Slot: 3, Symbol: 13, Carrier: 23}, 110, 111, 144, 147},
		{api.GridPlace{Part: 3, Slot: 7, Symbol: 0, Carrier: 1}, 98, 98, 208, 215},
		{api.GridPlace{Part: 3, Slot: 0, Symbol: 5, Carrier: 47}, 5, 5, 576, 583},
	} {
		cover, e := grid.CoverOf(c, x.x)
		want := api.GridCover{Ticks: api.Range{Lo: x.tick, Hi: x.last}, Units: api.Range{Lo: x.unit, Hi: x.wide}}
		expect(t, "CoverOf", cover, e, want, api.OK)
	}
}

func TestOwnerOf(t *testing.T) {
	c := mixed()
	// a second signal like the first one, which comes behind it
	c.Signals = append(c.Signals, c.Signals[0])
	for _, x := range []struct {
		x     api.GridPlace
		owner int
		e     api.Errno
	}{
		{api.GridPlace{Symbol: 2, Carrier: 23}, 0, api.OK},
		{api.GridPlace{Symbol: 2, Carrier: 24}, 0, api.ErrNone},
		{api.GridPlace{Symbol: 4, Carrier: 23}, 1, api.OK},
		{api.GridPlace{Symbol: 6, Carrier: 23}, 0, api.ErrNone},
		{api.GridPlace{Subframe: 1, Symbol: 2, Carrier: 23}, 0, api.ErrNone},
		{api.GridPlace{Carrier: 24}, 2, api.OK}, // shared with the signal 4 of the other part
		{api.GridPlace{Subframe: 5, Symbol: 8, Carrier: 5}, 3, api.OK},
		{api.GridPlace{Subframe: 5, Symbol: 8, Carrier: 11}, 3, api.OK},
		{api.GridPlace{Subframe: 5, Symbol: 8, Carrier: 12}, 0, api.ErrNone},
		{api.GridPlace{Subframe: 6, Symbol: 8, Carrier: 11}, 0, api.ErrNone},
		{api.GridPlace{Part: 1, Symbol: 1}, 4, api.OK},
		{api.GridPlace{Part: 1, Symbol: 2}, 0, api.ErrNone},
		{api.GridPlace{Part: 1, Slot: 1, Symbol: 1}, 0, api.ErrNone},
	} {
		n, e := grid.OwnerOf(c, x.x)
		expect(t, "OwnerOf", n, e, x.owner, x.e)
	}
}

func TestElementsAndOwnersOfRandomCarriers(t *testing.T) {
	r := rand.New(rand.NewSource(2))
	for range 60 {
		c := randomCarrier(r)
		mustBeRight(t, c)
		subframe := r.Intn(span)
		owners := map[api.GridPlace]int{}
		for i := len(c.Signals) - 1; i >= 0; i-- {
			l := elements(c, c.Signals[i], subframe)
			n, e := grid.ElementsOf(c, i, subframe)
			expect(t, "ElementsOf", n, e, len(l), api.OK)
			for _, x := range l {
				owners[x] = i
			}
		}
		for part, p := range c.Parts {
			for range 100 {
				x := api.GridPlace{Part: part, Subframe: subframe, Slot: r.Intn(1 << p.Mu), Symbol: r.Intn(14), Carrier: r.Intn(12 * p.Blocks)}
				want, is := owners[x]
				f := api.OK
				if !is {
					f = api.ErrNone
				}
				n, e := grid.OwnerOf(c, x)
				expect(t, "OwnerOf", n, e, want, f)
			}
		}
	}
}

func TestShare(t *testing.T) {
	c := mixed()
	for _, x := range []struct {
		a, b int
		is   bool
		e    api.Errno
	}{
		{2, 4, true, api.OK}, {4, 2, true, api.OK}, {3, 4, false, api.OK}, {0, 1, false, api.OK},
		{4, 4, false, api.ErrDouble}, {5, 5, false, api.ErrMissing}, {-1, 0, false, api.ErrMissing}, {0, -1, false, api.ErrMissing},
	} {
		is, e := grid.Share(c, x.a, x.b)
		expect(t, "Share", is, e, x.is, x.e)
	}
	_, e := grid.Share(wrong(), -1, -1)
	expect(t, "Share of a wrong carrier", 0, e, 0, api.ErrName)
}

func TestFirstShared(t *testing.T) {
	x, e := grid.FirstShared(example())
	expect(t, "FirstShared of none", x, e, api.GridShared{}, api.ErrNone)
	x, e = grid.FirstShared(wrong())
	expect(t, "FirstShared of a wrong carrier", x, e, api.GridShared{}, api.ErrName)
	c := mixed()
	x, e = grid.FirstShared(c)
	expect(t, "FirstShared", x, e, api.GridShared{A: 2, B: 4, Unit: 24}, api.OK)
	c.Signals[4].Symbol = 2
	x, e = grid.FirstShared(c)
	expect(t, "FirstShared beside", x, e, api.GridShared{}, api.ErrNone)
	c.Signals[4].Slot = 1
	x, e = grid.FirstShared(c)
	expect(t, "FirstShared with the reference", x, e, api.GridShared{A: 3, B: 4, Tick: 64, Unit: 29}, api.OK)
}

// stripes is two signals in all of one block of one slot.
func stripes(a, b api.GridSignal) api.GridCarrier {
	for _, s := range []*api.GridSignal{&a, &b} {
		s.Kind, s.Symbols, s.Blocks = api.GridData, 1, 1
	}
	return api.GridCarrier{Name: "c", Cell: 5, Width: 12, Parts: []api.GridPart{{Blocks: 1}}, Signals: []api.GridSignal{a, b}}
}

func TestSharedSubframes(t *testing.T) {
	for _, x := range []struct{ p, o, q, r int }{ // periods and offsets
		{10240, 10239, 1, 0}, {5, 3, 8, 6}, {8, 6, 5, 3}, {2, 0, 4, 1}, {2048, 7, 5, 4},
		{10240, 0, 10240, 1}, {10240, 77, 10240, 77}, {4, 3, 2048, 1023}, {2048, 0, 1280, 256}, {2048, 1, 1280, 0},
	} {
		want := -1
		for n := range api.GridSubframes {
			if n%x.p == x.o && n%x.q == x.r {
				want = n
				break
			}
		}
		c := stripes(api.GridSignal{Period: x.p, Offset: x.o, Step: 1}, api.GridSignal{Period: x.q, Offset: x.r, Step: 1})
		mustBeRight(t, c)
		is, e := grid.Share(c, 0, 1)
		expect(t, "Share", is, e, want >= 0, api.OK)
		y, e := grid.FirstShared(c)
		if want < 0 {
			expect(t, "FirstShared of none", y, e, api.GridShared{}, api.ErrNone)
		} else {
			expect(t, "FirstShared", y, e, api.GridShared{B: 1, Subframe: want}, api.OK)
		}
	}
}

func TestCombs(t *testing.T) {
	// the subcarriers 0, 2, .. (the cell 5 shifts too), and 1, 4, 7, 10: of both 4 and 10
	c := stripes(api.GridSignal{Period: 1, Step: 2, Shift: 1}, api.GridSignal{Period: 1, Step: 3, Shift: 2})
	y, e := grid.FirstShared(c)
	expect(t, "FirstShared", y, e, api.GridShared{B: 1, Unit: 4}, api.OK)
	c.Signals[1].Step, c.Signals[1].Shift = 2, 0
	y, e = grid.FirstShared(c)
	expect(t, "FirstShared of other combs", y, e, api.GridShared{}, api.ErrNone)
	// alike in all: they share all their places
	c.Signals[1] = c.Signals[0]
	y, e = grid.FirstShared(c)
	expect(t, "FirstShared of equal ones", y, e, api.GridShared{B: 1}, api.OK)
	// a guard is a signal like others
	c.Signals[1].Kind = api.GridGuard
	y, e = grid.FirstShared(c)
	expect(t, "FirstShared of a guard", y, e, api.GridShared{B: 1}, api.OK)
	// each block has one subcarrier at least
	c.Signals[0].Step, c.Signals[0].Shift = 12, 11
	n, e := grid.ElementsOf(c, 0, 0)
	expect(t, "ElementsOf the widest comb", n, e, 1, api.OK)
}

// TestSharedPlacesOfRandomCarriers compares with all places, one by one.
func TestSharedPlacesOfRandomCarriers(t *testing.T) {
	r := rand.New(rand.NewSource(3))
	found := 0
	for range 120 {
		c := randomCarrier(r)
		want, e := api.GridShared{}, api.ErrNone
		for a := range c.Signals {
			for b := a + 1; b < len(c.Signals); b++ {
				x, share := sharedSlowly(c, a, b)
				is, f := grid.Share(c, a, b)
				expect(t, "Share", is, f, share, api.OK)
				is, f = grid.Share(c, b, a)
				expect(t, "Share in the other order", is, f, share, api.OK)
				if share && e != api.OK {
					want, e = x, api.OK
					found++
				}
			}
		}
		x, f := grid.FirstShared(c)
		expect(t, "FirstShared", x, f, want, e)
	}
	if found < 20 {
		t.Errorf("only %d carriers share places", found)
	}
}

func sharedSlowly(c api.GridCarrier, a, b int) (api.GridShared, bool) {
	for n := range span {
		q, is := firstOf(covered(c, c.Signals[a], n), covered(c, c.Signals[b], n))
		if is {
			return api.GridShared{A: a, B: b, Subframe: n, Tick: q.tick, Unit: q.unit}, true
		}
	}
	return api.GridShared{}, false
}

// TestNoElementTwice is P1.9.
func TestNoElementTwice(t *testing.T) {
	r := rand.New(rand.NewSource(4))
	apart := 0
	for range 200 {
		c := randomCarrier(r)
		if _, e := grid.FirstShared(c); e != api.ErrNone || len(c.Signals) < 2 {
			continue
		}
		apart++
		for n := range span {
			times := map[point]int{}
			for i, s := range c.Signals {
				for q := range covered(c, s, n) {
					times[q]++
					if times[q] > 1 {
						t.Fatalf("%v is covered twice in %v", q, c)
					}
				}
				for j, x := range elements(c, s, n) {
					if j%17 == 0 {
						owner, e := grid.OwnerOf(c, x)
						expect(t, "OwnerOf", owner, e, i, api.OK)
					}
				}
			}
		}
	}
	if apart < 5 {
		t.Errorf("only %d carriers share nothing", apart)
	}
}
