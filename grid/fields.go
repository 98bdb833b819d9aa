package grid

import "downtilt/api"

// field is a number of a carrier, and how many broadcast bits it has. The text and the broadcast bits tell the fields in one order.
type field struct {
	number *int
	bits   int
}

func carrierFields(c *api.GridCarrier) []field {
	return []field{{&c.Cell, 10}, {&c.Width, 10}}
}

func partFields(p *api.GridPart) []field {
	return []field{{&p.Mu, 2}, {&p.First, 10}, {&p.Blocks, 5}}
}

// signalFields leaves out the kind, which is a word in the text.
func signalFields(s *api.GridSignal) []field {
	return []field{
		{&s.Part, 2}, {&s.Period, 14}, {&s.Offset, 14}, {&s.Slot, 4},
		{&s.Symbol, 4}, {&s.Symbols, 4}, {&s.Block, 5}, {&s.Blocks, 5},
		{&s.Step, 4}, {&s.Shift, 4},
	}
}
