package station_test

import (
	"math"
	"slices"
	"strings"
	"testing"

	"downtilt/api"
)

// logErrors are of a log.
func logErrors() []mistake {
	type log = []api.StationEntry
	return mistakes("log", func(a *arguments) *log { return &a.Log }, []wrong[log]{
		{make(log, 61), api.ErrLarge},
		{repeated("ann day 0", 61), api.ErrLarge},
		{logOf("ann day 1", " day 1"), api.ErrName},
		{logOf("ann day 1", "ann "), api.ErrForm},
		{logOf("zoe day 1"), api.ErrMissing},
		{logOf("ann day x", "ann "), api.ErrSyntax},
		{logOf("ann day 1", "ann try 1"), api.ErrAllowed},
		{logOf("ann day 1", "ann day 0"), api.ErrOrder},
	})
}

// entryErrors are of an entry behind the log of the right arguments.
func entryErrors() []mistake {
	by := func(a *arguments) *string { return &a.Entry.By }
	text := func(a *arguments) *string { return &a.Entry.Text }
	var names, syntax []wrong[string]
	for _, name := range wrongNames {
		names = append(names, wrong[string]{name, api.ErrName})
	}
	for _, s := range wrongTexts {
		syntax = append(syntax, wrong[string]{s, api.ErrSyntax})
	}
	return slices.Concat(
		mistakes("by", by, names),
		mistakes("text", text, []wrong[string]{
			{"", api.ErrForm}, {"\n", api.ErrForm}, {"day\n1", api.ErrForm}, {"rest p\n", api.ErrForm},
			{strings.Repeat("\n", 401), api.ErrForm}, // ahead of ErrLarge
			{strings.Repeat("a", 401), api.ErrLarge}, {"rest " + strings.Repeat("p", 396), api.ErrLarge},
		}),
		mistakes("by", by, []wrong[string]{{"zoe", api.ErrMissing}, {"Ann", api.ErrMissing}, {"an", api.ErrMissing}, {"annn", api.ErrMissing}}),
		mistakes("text", text, syntax),
		mistakes("by", by, []wrong[string]{{"ann", api.ErrAllowed}}),
		mistakes("text", text, []wrong[string]{{"rest z", api.ErrMissing}, {"load 2 1 1", api.ErrMissing}, {"confirm", api.ErrNone}, {"config x", api.ErrSyntax}}))
}

// wrongTexts are written as no kind is.
var wrongTexts = []string{
	" ", " day 1", "day  1", "day 1 ", "x", "Day 1", "days 1", "day,1", "day\t1", "-", "day", "day 1 2", "day x", "day -1", "day +1", "day 01", "day 00", "day 12345678", "day 00000001", "day 1.", "day \xff", "day 1\r",
	"day 10000000", "day 99999999", "day 1000000000000000000000",
	"config", "config ", "config  x", "config x  y", "config x ", "use", "use x", "use 1 2", "use -0", "use -1", "back 1", "back x", "back ", "admit", "admit ", "end", "end ", "end x y", "end  x",
	"rest", "rest p q", "rest p ", "wake", "wake p q", "raise", "raise fan heat", "clear", "clear fan heat", "clear fan ",
	"load", "load 1", "load 1 2", "load 1 2 3 4", "load a 2 3", "load 1 a 3", "load 1 2 a", "load 1 2 -3", "load 1 10000000 1",
	"piece", "piece 1", "piece 1 0 0", "piece x 0", "piece 1 x", "piece 1 00", "try", "try x", "try 1 1", "confirm 1", "confirm ", "reject 1", "reject x",
	"count", "count x", "count x y", "count x 1 2", "count x -1", "count 1 x", "count x 01", "count  1", "walk", "walk ", "walk data  1",
}

// TestErrorsOfLogs is of all functions that have a log.
func TestErrorsOfLogs(t *testing.T) {
	checkErrors(t, "CheckLog", fewHouseErrors(), logErrors())
	checkErrors(t, "StateOf", fewHouseErrors(), logErrors())
	checkErrors(t, "Report", fewHouseErrors(), logErrors())
	full := mistakes("log", func(a *arguments) *[]api.StationEntry { return &a.Log }, []wrong[[]api.StationEntry]{{repeated("ann day 7", 60), api.ErrFull}})
	checkErrors(t, "Accept", fewHouseErrors(), logErrors(), full, entryErrors())
	questions := mistakes("question", func(a *arguments) *string { return &a.Question }, []wrong[string]{
		{"", api.ErrSyntax}, {" ", api.ErrSyntax}, {"days", api.ErrSyntax}, {"Day", api.ErrSyntax}, {"day ", api.ErrSyntax}, {" day", api.ErrSyntax}, {"day 1", api.ErrSyntax}, {"bearers -", api.ErrSyntax},
		{"count", api.ErrSyntax}, {"count ", api.ErrSyntax}, {"count  drops", api.ErrSyntax}, {"count drops ", api.ErrSyntax}, {"count 1", api.ErrSyntax}, {"count drops x", api.ErrSyntax}, {"count a_", api.ErrSyntax},
		{"counts x", api.ErrSyntax}, {"drops", api.ErrSyntax}, {"day\n", api.ErrSyntax}, {"count drops\n", api.ErrSyntax}, {"count abcdefghijklm", api.ErrSyntax}, {"day count drops", api.ErrSyntax},
		{"count drop", api.ErrMissing}, {"count dropss", api.ErrMissing}, {"count Drops", api.ErrMissing}, {"count abcdefghijkl", api.ErrMissing}, {"count day", api.ErrMissing},
	})
	checkErrors(t, "Ask", fewHouseErrors(), logErrors(), questions)
}

// raisedErrors are of raised alarms of the example house.
func raisedErrors() []mistake {
	type list = []int
	return mistakes("raised", func(a *arguments) *list { return &a.Raised }, []wrong[list]{
		{list{-1}, api.ErrMissing},
		{list{3}, api.ErrMissing},
		{list{0, 1, 2, 3}, api.ErrMissing},
		{list{math.MaxInt}, api.ErrMissing},
		{list{math.MinInt}, api.ErrMissing},
		{list{1, -1}, api.ErrMissing}, // ahead of ErrOrder
		{list{0, 0}, api.ErrOrder},
		{list{1, 1}, api.ErrOrder},
		{list{2, 1}, api.ErrOrder},
		{list{0, 2, 1}, api.ErrOrder},
		{list{1, 1, 3}, api.ErrOrder}, // one by one
		{list{1, 3, 1}, api.ErrMissing},
	})
}

func TestErrorsOfAlarms(t *testing.T) {
	checkErrors(t, "BroughtAbout", fewHouseErrors(), beyond("kind", func(a *arguments) *int { return &a.Kind }, 0, 2, api.ErrMissing))
	checkErrors(t, "RootsOf", fewHouseErrors(), raisedErrors())
	checkErrors(t, "LeastCauses", fewHouseErrors(), raisedErrors())
	none := mistakes("raised", func(a *arguments) *[]int { return &a.Raised }, []wrong[[]int]{{nil, api.ErrNone}, {[]int{}, api.ErrNone}})
	checkErrors(t, "WorstOf", fewHouseErrors(), raisedErrors(), none)
}

// TestErrorsWithoutAlarms is of a house with no kinds of alarms.
func TestErrorsWithoutAlarms(t *testing.T) {
	for _, name := range []string{"BroughtAbout", "RootsOf", "LeastCauses", "WorstOf"} {
		a := rightArguments()
		a.House.Alarms, a.Kind, a.Raised = nil, 0, []int{0}
		results, e := functionOf(name).call(a)
		expect(t, name, areNothing(results), e, true, api.ErrMissing)
	}
}

// readingErrors are of readings.
func readingErrors(touches string, at func(*arguments) *[]int) []mistake {
	type list = []int
	return mistakes(touches, at, []wrong[list]{
		{make(list, 31), api.ErrLarge},
		{slices.Repeat(list{-1}, 31), api.ErrLarge},
		{list{-1}, api.ErrRange},
		{list{65536}, api.ErrRange},
		{list{0, 1, math.MaxInt}, api.ErrRange},
		{list{math.MinInt, 1, 2}, api.ErrRange},
		{append(make(list, 29), 65536), api.ErrRange},
	})
}

func TestErrorsOfReadings(t *testing.T) {
	good := func(a *arguments) *[]int { return &a.Good }
	all := func(a *arguments) *[]int { return &a.All }
	checkErrors(t, "TotalOf", readingErrors("good", good))
	checkErrors(t, "RateOf", readingErrors("good", good), readingErrors("all", all),
		mistakes("all", all, []wrong[[]int]{{nil, api.ErrZero}, {[]int{7}, api.ErrZero}, {[]int{7, 7, 7}, api.ErrZero}}),
		mistakes("good", good, []wrong[[]int]{{[]int{0, 13}, api.ErrBreak}, {[]int{1, 0}, api.ErrBreak}}))
}

func TestErrorsOfRings(t *testing.T) {
	type log = []api.StationEntry
	entry := func(a *arguments) *api.StationEntry { return &a.Alone }
	var alone []wrong[api.StationEntry]
	for _, name := range wrongNames {
		alone = append(alone, wrong[api.StationEntry]{api.StationEntry{By: name, Text: "x"}, api.ErrName})
	}
	alone = append(alone, []wrong[api.StationEntry]{
		{api.StationEntry{}, api.ErrName},
		{entryOf("a_ " + strings.Repeat("\n", 401)), api.ErrName},
		{entryOf("a "), api.ErrForm},
		{entryOf("a \n"), api.ErrForm},
		{entryOf("a x\ny"), api.ErrForm},
		{entryOf("a " + strings.Repeat("\n", 401)), api.ErrForm}, // ahead of ErrLarge
		{entryOf("a " + strings.Repeat("x", 401)), api.ErrLarge},
	}...)
	checkErrors(t, "SumOf", beyond("number", func(a *arguments) *int { return &a.Number }, 0, 59, api.ErrRange), mistakes("entry", entry, alone))
	logs := []wrong[log]{
		{make(log, 61), api.ErrLarge},
		{repeated("a x", 61), api.ErrLarge},
		{append(logOf("a x", "a "), api.StationEntry{}), api.ErrForm}, // one by one
	}
	for _, x := range alone {
		logs = append(logs, wrong[log]{log{x.x}, x.e}, wrong[log]{append(repeated("a x", 59), x.x), x.e})
	}
	checkErrors(t, "Ring", mistakes("lines", func(a *arguments) *log { return &a.Lines }, logs), beyond("size", func(a *arguments) *int { return &a.Size }, 1, 20, api.ErrRange))
	checkErrors(t, "Left", mistakes("texts", func(a *arguments) *[]string { return &a.Texts }, []wrong[[]string]{
		{nil, api.ErrShape},
		{[]string{}, api.ErrShape},
		{make([]string, 21), api.ErrLarge},
		{make([]string, 20), api.ErrNone},
		{[]string{""}, api.ErrNone},
	}))
}

func TestErrorsOfDays(t *testing.T) {
	seed := beyond("seed", func(a *arguments) *int { return &a.Seed }, 1, 998244352, api.ErrRange)
	steps := beyond("steps", func(a *arguments) *int { return &a.Steps }, 0, 40, api.ErrRange)
	noChief := mistakes("part 1", func(a *arguments) *[]api.StationPerson { return &a.House.People }, []wrong[[]api.StationPerson]{
		{peopleOf("ann", 0), api.ErrNone},
		{peopleOf("ann", 1, "ben", 0), api.ErrNone},
	})
	checkErrors(t, "Day", fewHouseErrors(), seed, steps, noChief)
	checkErrors(t, "Next", beyond("x", func(a *arguments) *int { return &a.X }, 1, 998244352, api.ErrRange))
}
