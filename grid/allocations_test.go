package grid_test

import (
	"math"
	"math/rand"
	"slices"
	"testing"

	"downtilt/api"
	"downtilt/grid"
)

// wrongAllocations are of the carrier that mixed returns.
func wrongAllocations() []struct {
	x api.GridAllocation
	e api.Errno
} {
	return []struct {
		x api.GridAllocation
		e api.Errno
	}{
		{api.GridAllocation{Part: -1, Subframe: -1}, api.ErrMissing},
		{api.GridAllocation{Part: 2, Symbols: 1, Blocks: 1}, api.ErrMissing},
		{api.GridAllocation{Subframe: -1, Symbols: 1, Blocks: 1}, api.ErrRange},
		{api.GridAllocation{Subframe: 10240, Symbols: 1, Blocks: 1}, api.ErrRange},
		{api.GridAllocation{Slot: 1, Symbols: 1, Blocks: 1}, api.ErrRange},
		{api.GridAllocation{Slot: api.GridEach, Symbols: 1, Blocks: 1}, api.ErrRange},
		{api.GridAllocation{Part: 1, Slot: 2, Symbols: 1, Blocks: 1}, api.ErrRange},
		{api.GridAllocation{Symbol: -1, Symbols: 1, Blocks: 1}, api.ErrRange},
		{api.GridAllocation{Symbol: 14, Symbols: 1, Blocks: 1}, api.ErrRange},
		{api.GridAllocation{Symbols: 0, Blocks: 1}, api.ErrRange},
		{api.GridAllocation{Symbols: 15, Blocks: 1}, api.ErrRange},
		{api.GridAllocation{Symbols: 1, Block: -1, Blocks: 1}, api.ErrRange},
		{api.GridAllocation{Symbols: 1, Block: 4, Blocks: 1}, api.ErrRange},
		{api.GridAllocation{Symbols: 1, Blocks: 0}, api.ErrRange},
		{api.GridAllocation{Symbols: 1, Blocks: 5}, api.ErrRange},
		{api.GridAllocation{Symbol: 13, Symbols: 2, Blocks: 5}, api.ErrRange},
		{api.GridAllocation{Symbol: 13, Symbols: 2, Blocks: 1}, api.ErrBreak},
		{api.GridAllocation{Symbols: 1, Block: 3, Blocks: 2}, api.ErrBreak},
		{api.GridAllocation{Symbol: math.MaxInt, Symbols: math.MaxInt, Block: math.MaxInt, Blocks: math.MaxInt}, api.ErrRange},
	}
}

func TestErrorsOfAllocations(t *testing.T) {
	c := mixed()
	fine := api.GridAllocation{Subframe: 1, Symbol: 3, Symbols: 1, Blocks: 1}
	for _, x := range wrongAllocations() {
		n, e := grid.CheckAllocations(c, []api.GridAllocation{fine, x.x, {Part: -1}})
		expect(t, "CheckAllocations", n, e, 1, x.e)
		n, e = grid.RoomOf(c, x.x)
		expect(t, "RoomOf", n, e, 0, x.e)
		l, e := grid.FreeBlocks(c, nil, x.x)
		expect(t, "FreeBlocks", l, e, []api.Range(nil), x.e)
		l, e = grid.FreeBlocks(c, []api.GridAllocation{x.x}, api.GridAllocation{Part: -1})
		expect(t, "FreeBlocks beside a wrong one", l, e, []api.Range(nil), x.e)
		y, e := grid.FirstFit(c, []api.GridAllocation{x.x}, api.GridWant{Part: -1})
		expect(t, "FirstFit beside a wrong one", y, e, api.GridAllocation{}, x.e)
	}
	bad := []api.GridAllocation{{Part: -1}}
	n, e := grid.CheckAllocations(wrong(), bad)
	expect(t, "CheckAllocations of a wrong carrier", n, e, 0, api.ErrName)
	n, e = grid.RoomOf(wrong(), bad[0])
	expect(t, "RoomOf of a wrong carrier", n, e, 0, api.ErrName)
	_, e = grid.FreeBlocks(wrong(), bad, bad[0])
	expect(t, "FreeBlocks of a wrong carrier", 0, e, 0, api.ErrName)
	_, e = grid.FirstFit(wrong(), bad, api.GridWant{Part: -1})
	expect(t, "FirstFit of a wrong carrier", 0, e, 0, api.ErrName)
}

func TestCheckAllocations(t *testing.T) {
	c := example()
	one := api.GridAllocation{Subframe: 1, Symbol: 3, Symbols: 1, Block: 1, Blocks: 1}
	beside := api.GridAllocation{Subframe: 1, Symbol: 3, Symbols: 1, Block: 2, Blocks: 2}
	later := api.GridAllocation{Subframe: 1, Symbol: 4, Symbols: 10, Blocks: 4}
	control := api.GridAllocation{Subframe: 1, Symbols: 4, Blocks: 4}
	reference := api.GridAllocation{Subframe: 5, Symbol: 8, Symbols: 2, Blocks: 4}
	large := slices.Repeat([]api.GridAllocation{{Part: -1}}, 21)
	for i, x := range []struct {
		l []api.GridAllocation
		n int
		e api.Errno
	}{
		{nil, 0, api.OK},
		{[]api.GridAllocation{one, beside, later, reference}, 0, api.OK},
		{[]api.GridAllocation{one, beside, one}, 2, api.ErrBusy},
		{[]api.GridAllocation{one, control}, 1, api.ErrClash}, // not ErrBusy, which it were too
		{[]api.GridAllocation{control, {Part: -1}}, 0, api.ErrClash},
		{[]api.GridAllocation{one, one, control}, 1, api.ErrBusy},
		{large, 0, api.ErrLarge},
		{large[:20], 0, api.ErrMissing},
	} {
		n, e := grid.CheckAllocations(c, x.l)
		if n != x.n || e != x.e {
			t.Errorf("case %d: %d, %d, want %d, %d", i, n, e, x.n, x.e)
		}
	}
	var full []api.GridAllocation
	for i := range 20 {
		full = append(full, api.GridAllocation{Subframe: i + 1, Symbol: 1, Symbols: 13, Blocks: 4})
	}
	full[19].Subframe = 21
	n, e := grid.CheckAllocations(c, full)
	expect(t, "twenty of them", n, e, 0, api.OK)
	// a signal that stands in the other part is in the way too, and so is a guard
	d := mixed()
	d.Signals[4].Kind = api.GridGuard
	d.Signals[4].Slot = 1
	n, e = grid.CheckAllocations(d, []api.GridAllocation{{Subframe: 1, Symbol: 7, Symbols: 1, Block: 2, Blocks: 1}})
	expect(t, "beside a guard of another part", n, e, 0, api.ErrClash)
	d.Signals[4].Kind = api.GridReference
	n, e = grid.CheckAllocations(d, []api.GridAllocation{{Subframe: 1, Symbol: 7, Symbols: 1, Block: 2, Blocks: 1}, {Part: 1, Subframe: 1, Slot: 1, Symbols: 1, Blocks: 1}})
	expect(t, "beside a reference, and each other", n, e, 1, api.ErrBusy)
}

func TestRoomOf(t *testing.T) {
	c := example()
	for _, x := range []struct {
		x    api.GridAllocation
		room int
	}{
		{api.GridAllocation{Subframe: 5, Symbol: 8, Symbols: 2, Blocks: 4}, 88},
		{api.GridAllocation{Subframe: 6, Symbol: 8, Symbols: 2, Blocks: 4}, 96},
		{api.GridAllocation{Subframe: 5, Symbol: 8, Symbols: 1, Block: 1, Blocks: 1}, 10},
		{api.GridAllocation{Symbols: 14, Blocks: 4}, 14*48 - 48 - 2*48 - 8}, // it does not fit
		{api.GridAllocation{Symbols: 1, Blocks: 4}, 0},
	} {
		n, e := grid.RoomOf(c, x.x)
		expect(t, "RoomOf", n, e, x.room, api.OK)
	}
	// a wide subcarrier of another part takes the room of two narrow ones for half of their symbol
	d := mixed()
	d.Signals[4] = api.GridSignal{Kind: api.GridReference, Part: 1, Period: 1, Slot: 1, Symbols: 1, Blocks: 1, Step: 12}
	n, e := grid.RoomOf(d, api.GridAllocation{Subframe: 1, Symbol: 7, Symbols: 1, Block: 2, Blocks: 2})
	expect(t, "RoomOf beside a reference of another part", n, e, 22, api.OK)
}

func TestFreeBlocks(t *testing.T) {
	c := example()
	x := api.GridAllocation{Symbol: 2, Symbols: 2, Blocks: 1}
	l, e := grid.FreeBlocks(c, nil, x)
	expect(t, "FreeBlocks of the subframe 0", l, e, []api.Range{{Lo: 2, Hi: 3}}, api.OK)
	x.Subframe = 1
	l, e = grid.FreeBlocks(c, nil, x)
	expect(t, "FreeBlocks of the subframe 1", l, e, []api.Range{{Lo: 0, Hi: 3}}, api.OK)
	x.Block, x.Blocks = 3, 1
	l, e = grid.FreeBlocks(c, nil, x)
	expect(t, "FreeBlocks of other blocks", l, e, []api.Range{{Lo: 0, Hi: 3}}, api.OK)
	one := api.GridAllocation{Subframe: 1, Symbol: 3, Symbols: 1, Block: 1, Blocks: 1}
	l, e = grid.FreeBlocks(c, []api.GridAllocation{one}, x)
	expect(t, "FreeBlocks beside one", l, e, []api.Range{{Lo: 0, Hi: 0}, {Lo: 2, Hi: 3}}, api.OK)
	x.Symbol = 0
	l, e = grid.FreeBlocks(c, nil, x)
	expect(t, "FreeBlocks in the control", l, e, []api.Range{}, api.OK)
	l, e = grid.FreeBlocks(c, nil, api.GridAllocation{Subframe: 5, Symbol: 8, Symbols: 1, Blocks: 1})
	expect(t, "FreeBlocks in a reference", l, e, []api.Range{{Lo: 0, Hi: 3}}, api.OK)
	_, e = grid.FreeBlocks(c, []api.GridAllocation{one, one}, api.GridAllocation{Part: -1})
	expect(t, "FreeBlocks beside a busy one", 0, e, 0, api.ErrBusy)
}

func TestFirstFit(t *testing.T) {
	c := example()
	for i, x := range []struct {
		x    api.GridWant
		want api.GridAllocation
		e    api.Errno
	}{
		{api.GridWant{To: 20, Symbol: 2, Symbols: 2, Blocks: 3}, api.GridAllocation{Subframe: 1, Symbol: 2, Symbols: 2, Blocks: 3}, api.OK},
		{api.GridWant{To: 20, Symbol: 2, Symbols: 2, Blocks: 2}, api.GridAllocation{Symbol: 2, Symbols: 2, Block: 2, Blocks: 2}, api.OK},
		{api.GridWant{Symbol: 2, Symbols: 2, Blocks: 3}, api.GridAllocation{}, api.ErrNone},
		{api.GridWant{From: 10139, To: 10239, Symbol: 1, Symbols: 13, Blocks: 4}, api.GridAllocation{Subframe: 10139, Symbol: 1, Symbols: 13, Blocks: 4}, api.OK},
		{api.GridWant{To: 100, Symbols: 1, Blocks: 1}, api.GridAllocation{}, api.ErrNone},
		{api.GridWant{To: 101, Symbols: 1, Blocks: 1}, api.GridAllocation{}, api.ErrLarge},
		{api.GridWant{To: 101, Symbols: 1, Blocks: 0}, api.GridAllocation{}, api.ErrRange},
		{api.GridWant{To: 101, Symbol: 13, Symbols: 2, Blocks: 1}, api.GridAllocation{}, api.ErrBreak},
		{api.GridWant{To: 101, Symbol: 13, Symbols: 2, Blocks: 5}, api.GridAllocation{}, api.ErrRange},
		{api.GridWant{From: 2, To: 1, Symbols: -1}, api.GridAllocation{}, api.ErrOrder},
		{api.GridWant{From: 2, To: -1}, api.GridAllocation{}, api.ErrRange},
		{api.GridWant{From: 10240, To: 10240}, api.GridAllocation{}, api.ErrRange},
		{api.GridWant{From: 10240, To: 0}, api.GridAllocation{}, api.ErrRange}, // not ErrOrder
		{api.GridWant{From: -1, To: 1}, api.GridAllocation{}, api.ErrRange},
		{api.GridWant{Part: 1, From: -1}, api.GridAllocation{}, api.ErrMissing},
		{api.GridWant{From: math.MinInt, To: math.MaxInt}, api.GridAllocation{}, api.ErrRange},
	} {
		y, e := grid.FirstFit(c, nil, x.x)
		if y != x.want || e != x.e {
			t.Errorf("case %d: %v, %d, want %v, %d", i, y, e, x.want, x.e)
		}
	}
	one := api.GridAllocation{Subframe: 1, Symbol: 3, Symbols: 1, Block: 1, Blocks: 1}
	y, e := grid.FirstFit(c, []api.GridAllocation{one}, api.GridWant{From: 1, To: 3, Symbol: 2, Symbols: 2, Blocks: 3})
	expect(t, "FirstFit beside one", y, e, api.GridAllocation{Subframe: 2, Symbol: 2, Symbols: 2, Blocks: 3}, api.OK)
	y, e = grid.FirstFit(c, []api.GridAllocation{one}, api.GridWant{From: 1, To: 3, Symbol: 2, Symbols: 2, Blocks: 2})
	expect(t, "FirstFit behind one", y, e, api.GridAllocation{Subframe: 1, Symbol: 2, Symbols: 2, Block: 2, Blocks: 2}, api.OK)
	_, e = grid.FirstFit(c, []api.GridAllocation{one, one}, api.GridWant{Part: -1})
	expect(t, "FirstFit beside a busy one", 0, e, 0, api.ErrBusy)
	// the least slot comes ahead of the least block
	d := mixed()
	y, e = grid.FirstFit(d, nil, api.GridWant{Part: 1, To: 5, Symbol: 0, Symbols: 2, Blocks: 1})
	expect(t, "FirstFit in the slot 1", y, e, api.GridAllocation{Part: 1, Slot: 1, Symbols: 2, Blocks: 1}, api.OK)
}

// TestAllocationsOfRandomCarriers compares with all places, one by one, and tells P1.11.
func TestAllocationsOfRandomCarriers(t *testing.T) {
	r := rand.New(rand.NewSource(7))
	fitted := 0
	for range 100 {
		c := randomCarrier(r)
		var l []api.GridAllocation
		for range 12 {
			x := randomAllocation(r, c)
			want := fitsSlowly(c, l, x)
			n, e := grid.CheckAllocations(c, append(slices.Clone(l), x))
			if want == api.OK {
				expect(t, "CheckAllocations", n, e, 0, api.OK)
				l = append(l, x)
			} else {
				expect(t, "CheckAllocations", n, e, len(l), want)
			}
			room, e := grid.RoomOf(c, x)
			expect(t, "RoomOf", room, e, roomSlowly(c, x), api.OK)
		}
		x := randomAllocation(r, c)
		compareFreeBlocks(t, c, l, x)
		w := api.GridWant{Part: x.Part, From: x.Subframe, To: x.Subframe + r.Intn(4), Symbol: x.Symbol, Symbols: x.Symbols, Blocks: x.Blocks}
		if compareFirstFit(t, c, l, w) {
			fitted++
		}
	}
	if fitted < 30 {
		t.Errorf("only %d carriers had room", fitted)
	}
}

func compareFreeBlocks(t *testing.T, c api.GridCarrier, l []api.GridAllocation, x api.GridAllocation) {
	t.Helper()
	var want []int
	for x.Block, x.Blocks = 0, 1; x.Block < c.Parts[x.Part].Blocks; x.Block++ {
		if fitsSlowly(c, l, x) == api.OK {
			want = append(want, x.Block)
		}
	}
	x.Block = 0
	runs, e := grid.FreeBlocks(c, l, x)
	var got []int
	for i, r := range runs {
		if i > 0 && r.Lo <= runs[i-1].Hi+1 {
			t.Errorf("runs %v are not the longest ones", runs)
		}
		for b := r.Lo; b <= r.Hi; b++ {
			got = append(got, b)
		}
	}
	expect(t, "FreeBlocks", got, e, want, api.OK)
}

func compareFirstFit(t *testing.T, c api.GridCarrier, l []api.GridAllocation, w api.GridWant) bool {
	t.Helper()
	y, e := grid.FirstFit(c, l, w)
	for n := w.From; n <= w.To; n++ {
		for slot := range 1 << c.Parts[w.Part].Mu {
			for block := 0; block+w.Blocks <= c.Parts[w.Part].Blocks; block++ {
				x := api.GridAllocation{Part: w.Part, Subframe: n, Slot: slot, Symbol: w.Symbol, Symbols: w.Symbols, Block: block, Blocks: w.Blocks}
				if fitsSlowly(c, l, x) == api.OK {
					expect(t, "FirstFit", y, e, x, api.OK)
					number, f := grid.CheckAllocations(c, append(slices.Clone(l), y))
					expect(t, "CheckAllocations of it", number, f, 0, api.OK)
					return true
				}
			}
		}
	}
	expect(t, "FirstFit", y, e, api.GridAllocation{}, api.ErrNone)
	return false
}

// fitsSlowly is the error of a right allocation behind others.
func fitsSlowly(c api.GridCarrier, l []api.GridAllocation, x api.GridAllocation) api.Errno {
	here := covered(c, asSignal(x), x.Subframe)
	for _, s := range c.Signals {
		if _, is := firstOf(here, covered(c, s, x.Subframe)); is && s.Kind != api.GridReference {
			return api.ErrClash
		}
	}
	for _, y := range l {
		if _, is := firstOf(here, covered(c, asSignal(y), x.Subframe)); is {
			return api.ErrBusy
		}
	}
	return api.OK
}

func roomSlowly(c api.GridCarrier, x api.GridAllocation) int {
	taken := map[point]bool{}
	for _, s := range c.Signals {
		for q := range covered(c, s, x.Subframe) {
			taken[q] = true
		}
	}
	room := 0
	for _, y := range elements(c, asSignal(x), x.Subframe) {
		if !slices.ContainsFunc(points(c, y), func(q point) bool { return taken[q] }) {
			room++
		}
	}
	return room
}
