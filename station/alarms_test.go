package station_test

import (
	"fmt"
	"math/rand"
	"slices"
	"testing"

	"downtilt/api"
	"downtilt/station"
)

// withAlarms is the example house with kinds of alarms, told as their causes. Their severities are 0, 1, 2, 3, 0, ..
func withAlarms(causes ...[]int) api.StationHouse {
	h := exampleHouse()
	h.Alarms = nil
	for kind, l := range causes {
		h.Alarms = append(h.Alarms, api.StationAlarm{Name: fmt.Sprint("alarm-", kind), Severity: kind % 4, Causes: l})
	}
	return h
}

// TestAlarmExamples is the example 4 of the chapter, and more.
func TestAlarmExamples(t *testing.T) {
	example := exampleHouse()
	chain := withAlarms(nil, []int{0}, []int{1}, nil, []int{2, 3}, []int{4})
	twoEach := withAlarms(nil, nil, nil, []int{0, 1}, []int{1, 2}, []int{0, 2})
	for _, x := range []struct {
		h                    api.StationHouse
		raised, roots, least []int
		worst                int
	}{
		{example, []int{0, 1, 2}, []int{0}, []int{0}, 3},
		{example, []int{1, 2}, []int{1}, []int{0}, 2},
		{example, []int{1}, []int{1}, []int{0}, 1},
		{example, []int{2}, []int{2}, []int{0}, 2},
		{example, []int{0}, []int{0}, []int{0}, 3},
		{example, []int{0, 2}, []int{0}, []int{0}, 3},
		{chain, []int{0, 3}, []int{0, 3}, []int{0, 3}, 3},
		{chain, []int{3}, []int{3}, []int{3}, 3},
		{chain, []int{4, 5}, []int{4}, []int{0}, 1},
		{chain, []int{2, 4}, []int{2}, []int{0}, 2},
		{chain, []int{1, 3, 5}, []int{1, 3}, []int{0, 3}, 3},
		{chain, []int{3, 4}, []int{3}, []int{3}, 3},
		{twoEach, []int{3, 4, 5}, []int{3, 4, 5}, []int{0, 1}, 3},
		{twoEach, []int{4, 5}, []int{4, 5}, []int{2}, 1},
		{twoEach, []int{2, 3}, []int{2, 3}, []int{0, 2}, 3},
		{twoEach, []int{0}, []int{0}, []int{0}, 0},
	} {
		what := fmt.Sprint(x.h.Alarms, x.raised)
		roots, e := station.RootsOf(x.h, x.raised)
		expect(t, "RootsOf "+what, roots, e, x.roots, api.OK)
		least, e := station.LeastCauses(x.h, x.raised)
		expect(t, "LeastCauses "+what, least, e, x.least, api.OK)
		worst, e := station.WorstOf(x.h, x.raised)
		expect(t, "WorstOf "+what, worst, e, x.worst, api.OK)
	}
	for _, x := range []struct {
		h    api.StationHouse
		kind int
		all  []int
	}{{example, 0, []int{1, 2}}, {example, 1, []int{2}}, {example, 2, nil}, {chain, 0, []int{1, 2, 4, 5}}, {chain, 3, []int{4, 5}}, {chain, 5, nil}, {twoEach, 1, []int{3, 4}}} {
		all, e := station.BroughtAbout(x.h, x.kind)
		expect(t, fmt.Sprint("BroughtAbout ", x.h.Alarms, x.kind), all, e, x.all, api.OK)
	}
	roots, e := station.RootsOf(example, nil)
	expect(t, "RootsOf none", roots, e, []int(nil), api.OK)
	least, e := station.LeastCauses(example, nil)
	expect(t, "LeastCauses of none", least, e, []int(nil), api.OK)
}

// TestAlarms compares with slow versions, and looks at what follows (P10.15).
func TestAlarms(t *testing.T) {
	r := rand.New(rand.NewSource(103))
	fewer := 0
	for range 700 {
		h := exampleHouse()
		h.Alarms = randomAlarms(r)
		raised := randomSet(r, len(h.Alarms))
		what := fmt.Sprint(h.Alarms, raised)
		roots, e := station.RootsOf(h, raised)
		expect(t, "RootsOf "+what, roots, e, slowRoots(h, raised), api.OK)
		least, e := station.LeastCauses(h, raised)
		expect(t, "LeastCauses "+what, least, e, slowLeastCauses(h, raised), api.OK)
		if len(least) > len(roots) {
			t.Errorf("%s: %v are more than the roots %v", what, least, roots)
		}
		if len(least) < len(roots) {
			fewer++
		}
		var behind []int
		for kind := range h.Alarms {
			all, e := station.BroughtAbout(h, kind)
			expect(t, fmt.Sprint("BroughtAbout ", h.Alarms, kind), all, e, slowBroughtAbout(h, kind), api.OK)
			if slices.Contains(roots, kind) {
				behind = append(behind, all...)
			}
		}
		for _, kind := range raised {
			if slices.Contains(roots, kind) == slices.Contains(behind, kind) {
				t.Errorf("%s: %d is to be either a root, or brought about by one of %v", what, kind, roots)
			}
		}
	}
	if fewer < 20 {
		t.Errorf("fewer causes than roots %d times", fewer)
	}
}
