package grid_test

import (
	"testing"

	"downtilt/api"
	"downtilt/grid"
)

// complete says that nothing is missing.
const complete = -1

func missing(t *testing.T, what string, c api.GridCarrier, want int) {
	t.Helper()
	mustBeRight(t, c)
	n, e := grid.Missing(c)
	if want == complete {
		expect(t, what, n, e, 0, api.ErrNone)
	} else {
		expect(t, what, n, e, want, api.OK)
	}
}

func TestMissing(t *testing.T) {
	missing(t, "the example", example(), complete)
	n, e := grid.Missing(wrong())
	expect(t, "Missing of a wrong carrier", n, e, 0, api.ErrName)
	c := example()
	c.Signals = nil
	missing(t, "no signals", c, api.GridSync)
	for i, want := range []int{api.GridSync, api.GridBroadcast, api.GridControl, api.GridReference} {
		c := example()
		c.Signals = append(c.Signals[:i:i], c.Signals[i+1:]...)
		missing(t, "one signal less", c, want)
		c = example()
		c.Signals[i].Kind = api.GridGuard
		missing(t, "a guard instead", c, want)
	}
}

// change is a change of the signals of the example, and what is missing behind it.
type change struct {
	what   string
	change func(s []api.GridSignal)
	want   int
}

func tryChanges(t *testing.T, l []change) {
	t.Helper()
	for _, x := range l {
		c := example()
		x.change(c.Signals)
		missing(t, x.what, c, x.want)
	}
}

func TestGoodSynchronizations(t *testing.T) {
	both := func(f func(s *api.GridSignal)) func([]api.GridSignal) {
		return func(s []api.GridSignal) { f(&s[0]); f(&s[1]) }
	}
	tryChanges(t, []change{
		{"period 5", both(func(s *api.GridSignal) { s.Period = 5 }), complete},
		{"period 10", both(func(s *api.GridSignal) { s.Period = 10 }), complete},
		{"period 40", both(func(s *api.GridSignal) { s.Period = 40 }), api.GridSync},
		{"period 1", both(func(s *api.GridSignal) { s.Period = 1 }), api.GridSync},
		{"offset", both(func(s *api.GridSignal) { s.Offset = 19 }), complete},
		{"each slot", both(func(s *api.GridSignal) { s.Slot = api.GridEach }), api.GridSync},
		{"symbol 8", func(s []api.GridSignal) { s[0].Symbol, s[1].Symbol = 8, 10 }, complete},
		{"symbol 3", func(s []api.GridSignal) { s[0].Symbol, s[1].Symbol = 3, 5 }, api.GridSync},
		{"symbol 4", func(s []api.GridSignal) { s[0].Symbol, s[1].Symbol = 4, 6 }, api.GridSync},
		{"one symbol", both(func(s *api.GridSignal) { s.Symbols = 1 }), api.GridSync},
		{"one block", both(func(s *api.GridSignal) { s.Blocks = 1 }), api.GridSync},
		{"step 2", both(func(s *api.GridSignal) { s.Step = 2 }), api.GridSync},
		{"block 1", both(func(s *api.GridSignal) { s.Block = 1 }), api.GridSync},
		{"block 2", both(func(s *api.GridSignal) { s.Block = 2 }), complete},
		{"block 0 for the broadcast only", func(s []api.GridSignal) { s[0].Block = 2 }, api.GridBroadcast},
	})
}

func TestRasterOfSynchronizations(t *testing.T) {
	for _, x := range []struct{ mu, first, block, want int }{
		{0, 24, 0, complete}, {0, 12, 0, api.GridSync}, {0, 12, 1, complete}, {0, 13, 1, api.GridSync}, {0, 36, 1, complete},
		{1, 0, 1, complete}, {1, 24, 1, complete}, {1, 12, 1, api.GridSync}, {1, 12, 0, api.GridSync},
		{2, 0, 0, api.GridSync}, {3, 0, 1, api.GridSync},
	} {
		c := example()
		c.Width = 500
		c.Parts[0].Mu, c.Parts[0].First = x.mu, x.first
		c.Signals[0].Block, c.Signals[1].Block = x.block, x.block
		missing(t, "a raster", c, x.want)
	}
}

func TestBroadcastsControlsAndReferences(t *testing.T) {
	tryChanges(t, []change{
		{"broadcast of another period", func(s []api.GridSignal) { s[1].Period = 10 }, api.GridBroadcast},
		{"broadcast of another offset", func(s []api.GridSignal) { s[1].Offset = 1 }, api.GridBroadcast},
		{"broadcast in each slot", func(s []api.GridSignal) { s[1].Slot = api.GridEach }, api.GridBroadcast},
		{"broadcast too late", func(s []api.GridSignal) { s[1].Symbol = 5 }, api.GridBroadcast},
		{"broadcast too long", func(s []api.GridSignal) { s[1].Symbols = 3 }, api.GridBroadcast},
		{"broadcast beside", func(s []api.GridSignal) { s[1].Block = 1 }, api.GridBroadcast},
		{"broadcast too wide", func(s []api.GridSignal) { s[1].Blocks = 3 }, api.GridBroadcast},
		{"broadcast on a comb", func(s []api.GridSignal) { s[1].Step = 2 }, api.GridBroadcast},
		{"broadcast ahead of the synchronization", func(s []api.GridSignal) { s[0], s[1] = s[1], s[0] }, complete},
		{"control of period 20", func(s []api.GridSignal) { s[2].Period = 20 }, complete},
		{"control of period 32", func(s []api.GridSignal) { s[2].Period = 32 }, api.GridControl},
		{"control in the symbol 1", func(s []api.GridSignal) { s[2].Symbol = 1 }, api.GridControl},
		{"control on a comb", func(s []api.GridSignal) { s[2].Step = 5; s[2].Offset = 0; s[2].Slot = 0 }, complete},
		{"reference of period 20", func(s []api.GridSignal) { s[3].Period = 20 }, complete},
		{"reference of period 32", func(s []api.GridSignal) { s[3].Period = 32 }, api.GridReference},
		{"reference of step 2", func(s []api.GridSignal) { s[3].Step = 2 }, complete},
		{"reference of step 1", func(s []api.GridSignal) { s[3].Step, s[3].Shift = 1, 0 }, api.GridReference},
		{"the broadcast is missing first", func(s []api.GridSignal) { s[1].Symbol = 5; s[2].Symbol = 1; s[3].Period = 32 }, api.GridBroadcast},
		{"the control is missing first", func(s []api.GridSignal) { s[2].Symbol = 1; s[3].Period = 32 }, api.GridControl},
	})
}

// TestSynchronizationsOfTwoParts has two good ones, of which each lacks something.
func TestSynchronizationsOfTwoParts(t *testing.T) {
	c := example()
	c.Parts = append(c.Parts, c.Parts[0])
	for _, s := range example().Signals {
		s.Part = 1
		c.Signals = append(c.Signals, s)
	}
	missing(t, "both complete", c, complete)
	d := copyOf(c)
	d.Signals[0].Part = 1 // only the part 1 has a good one
	missing(t, "one of two is enough", d, complete)
	d = copyOf(c)
	d.Signals[1].Part = 1 // the broadcast of the part 0 is away
	d.Signals[6].Part = 0 // and the control of the part 1
	missing(t, "one with a broadcast, the other with a control", d, api.GridControl)
	d = copyOf(c)
	d.Signals[2].Part = 1
	d.Signals[7].Part = 0
	missing(t, "one with a control, the other with a reference", d, api.GridReference)
	d = copyOf(c)
	d.Signals[0].Symbol = 3
	d.Signals[5].Part = 0
	missing(t, "a broadcast in another part", d, api.GridBroadcast)
}
