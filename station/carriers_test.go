package station_test

import (
	"fmt"
	"math/rand"
	"slices"
	"testing"

	"downtilt/api"
	"downtilt/station"
)

// withSignals is a carrier of some signals, each one told as a letter: the same letters are equal signals.
func withSignals(letters string) api.GridCarrier {
	c := carrierOf(moreLine)
	c.Signals = signalsOf(letters)
	return c
}

func signalsOf(letters string) []api.GridSignal {
	var l []api.GridSignal
	for _, letter := range letters {
		l = append(l, api.GridSignal{Kind: api.GridData, Period: 5, Offset: int(letter-'a') % 5, Symbols: 1 + int(letter-'a')/5, Blocks: 1, Step: 1})
	}
	return l
}

func TestDiffExamples(t *testing.T) {
	for _, x := range []struct{ a, b, added, removed string }{
		{"", "", "", ""},
		{"abc", "abc", "", ""},
		{"abc", "cba", "", ""},
		{"", "ba", "ba", ""},
		{"ba", "", "", "ba"},
		{"abc", "adc", "d", "b"},
		{"a", "aba", "ba", ""}, // the last one of equal ones
		{"aba", "a", "", "ba"},
		{"aa", "abaca", "bca", ""},
		{"aab", "bba", "b", "a"},
		{"abab", "bbaac", "c", ""},
		{"abcabc", "ac", "", "babc"},
		{"aaaaaaaaaaaa", "bbbbbbbbbbbb", "bbbbbbbbbbbb", "aaaaaaaaaaaa"},
	} {
		got, e := station.DiffOf(withSignals(x.a), withSignals(x.b))
		expect(t, "DiffOf "+x.a+" "+x.b, got, e, api.StationDiff{Added: signalsOf(x.added), Removed: signalsOf(x.removed)}, api.OK)
	}
	got, e := station.DiffOf(carrierOf(carrierLine), carrierOf(moreLine))
	expect(t, "DiffOf", got, e, api.StationDiff{Added: carrierOf(moreLine).Signals[4:]}, api.OK)
}

// TestDiffFields is of signals that differ in one number only.
func TestDiffFields(t *testing.T) {
	first := api.GridSignal{Kind: api.GridData, Period: 10, Offset: 1, Slot: 0, Symbol: 1, Symbols: 2, Block: 0, Blocks: 1, Step: 4, Shift: 1}
	for i, change := range []func(*api.GridSignal){
		func(s *api.GridSignal) { s.Kind = api.GridGuard },
		func(s *api.GridSignal) { s.Part = 1 },
		func(s *api.GridSignal) { s.Period = 20 },
		func(s *api.GridSignal) { s.Offset = 2 },
		func(s *api.GridSignal) { s.Slot = api.GridEach },
		func(s *api.GridSignal) { s.Symbol = 2 },
		func(s *api.GridSignal) { s.Symbols = 3 },
		func(s *api.GridSignal) { s.Block = 1 },
		func(s *api.GridSignal) { s.Blocks = 2 },
		func(s *api.GridSignal) { s.Step = 3 },
		func(s *api.GridSignal) { s.Shift = 2 },
	} {
		other := first
		change(&other)
		a, b := withSignals(""), withSignals("")
		a.Parts = []api.GridPart{a.Parts[0], a.Parts[0]}
		b.Parts = a.Parts
		a.Signals, b.Signals = []api.GridSignal{first}, []api.GridSignal{other}
		got, e := station.DiffOf(a, b)
		expect(t, fmt.Sprint("DiffOf, change ", i), got, e, api.StationDiff{Added: b.Signals, Removed: a.Signals}, api.OK)
	}
}

// slowBeside takes the last of the equal ones off, as many as there are more.
func slowBeside(l, others string) string {
	var taken []int
	for i := len(l) - 1; i >= 0; i-- {
		more := 0
		for j := range l {
			if l[j] == l[i] {
				more++
			}
		}
		for j := range others {
			if others[j] == l[i] {
				more--
			}
		}
		for _, j := range taken {
			if l[j] == l[i] {
				more--
			}
		}
		if more > 0 {
			taken = append(taken, i)
		}
	}
	slices.Sort(taken)
	s := ""
	for _, i := range taken {
		s += l[i : i+1]
	}
	return s
}

func TestDiffOf(t *testing.T) {
	r := rand.New(rand.NewSource(102))
	letters := func() string {
		s := ""
		for range upTo(r, 12) {
			s += oneOf(r, "a", "a", "b", "c", "d", "j")
		}
		return s
	}
	for range 300 {
		a, b := letters(), letters()
		got, e := station.DiffOf(withSignals(a), withSignals(b))
		expect(t, "DiffOf "+a+" "+b, got, e, api.StationDiff{Added: signalsOf(slowBeside(b, a)), Removed: signalsOf(slowBeside(a, b))}, api.OK)
	}
}

// TestErrorsOfCarriers is of carriers that are wrong, but not of those that may not be used.
func TestErrorsOfCarriers(t *testing.T) {
	noName, noParts, wide := carrierOf(carrierLine), carrierOf(carrierLine), carrierOf(carrierLine)
	noName.Name, noParts.Parts, wide.Signals[0].Step = "", nil, 13
	many := withSignals("aaaaaaaaaaaaa")
	carriers := []wrong[api.GridCarrier]{{noName, api.ErrName}, {noParts, api.ErrShape}, {wide, api.ErrRange}, {many, api.ErrLarge}}
	checkErrors(t, "DiffOf",
		mistakes("a", func(a *arguments) *api.GridCarrier { return &a.A }, carriers),
		mistakes("b", func(a *arguments) *api.GridCarrier { return &a.B }, carriers))
	got, e := station.DiffOf(carrierOf(clashLine), carrierOf(gapLine))
	expect(t, "DiffOf carriers that may not be used", got, e, api.StationDiff{Removed: carrierOf(clashLine).Signals[2:]}, api.OK)
}
