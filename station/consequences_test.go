package station_test

import (
	"fmt"
	"math/rand"
	"slices"
	"testing"

	"downtilt/api"
	"downtilt/grid"
	"downtilt/plan"
	"downtilt/sched"
	"downtilt/station"
)

// isWorking tells whether a bank may be active.
func isWorking(x api.StationBank) bool {
	return x.Status == api.StationGood || x.Status == api.StationOnTrial
}

// TestConsequences looks at what follows behind each entry of random logs (P10.9 to P10.12).
func TestConsequences(t *testing.T) {
	r := rand.New(rand.NewSource(115))
	seen := map[string]int{}
	for range 150 {
		h := randomHouse(r)
		log := randomLog(r, h)
		for count := range len(log) + 1 {
			x := must(station.StateOf(h, log[:count]))
			what := fmt.Sprint(toldBy(log[:count]))
			checkBanks(t, what, x)
			checkUse(t, what, x)
			if !must(plan.MayRest(h.Plan, x.Resting)) {
				t.Errorf("%s: the cells that rest may not rest", what)
			}
			seen[fmt.Sprint("trial ", x.Trial >= 0)]++
			seen[fmt.Sprint("rest ", len(x.Resting) > 0)]++
			seen[fmt.Sprint("versions ", len(x.Versions) > 1)]++
		}
		for count := range min(len(log)+1, api.MaxStationLog) {
			seen[fmt.Sprint("emergency ", checkEmergency(t, r, h, log[:count]))]++
		}
		if len(log) < api.MaxStationLog {
			seen[fmt.Sprint("back ", checkBack(t, h, log))]++
		}
	}
	for _, what := range []string{"trial true", "rest true", "versions true", "emergency true", "back true"} {
		if seen[what] < 10 {
			t.Errorf("%s %d times", what, seen[what])
		}
	}
}

// checkBanks is P10.9.
func checkBanks(t *testing.T, what string, x api.StationState) {
	t.Helper()
	active, other := x.Banks[x.Active], x.Banks[1-x.Active]
	isOnTrial := active.Status == api.StationOnTrial
	if !isWorking(active) || isOnTrial != (x.Trial != -1) || isOnTrial && (other.Status != api.StationGood || x.Day > x.Trial+3) || other.Status == api.StationOnTrial {
		t.Errorf("%s: the banks %v, %d is active, on trial since %d, on the day %d", what, x.Banks, x.Active, x.Trial, x.Day)
	}
}

// checkUse is that the version in use is right (P10.11).
func checkUse(t *testing.T, what string, x api.StationState) {
	t.Helper()
	c := x.Versions[x.Used[len(x.Used)-1]]
	_, shares := grid.FirstShared(c)
	_, misses := grid.Missing(c)
	if shares != api.ErrNone || misses != api.ErrNone {
		t.Errorf("%s: the version in use is not right: %v", what, c)
	}
}

// checkEmergency is P10.10. It tells whether others had to be removed.
func checkEmergency(t *testing.T, r *rand.Rand, h api.StationHouse, log []api.StationEntry) bool {
	t.Helper()
	before := must(station.StateOf(h, log))
	if slices.ContainsFunc(before.Bearers, func(x api.SchedBearer) bool { return x.Kind == api.SchedEmergency }) {
		return false
	}
	x := api.SchedBearer{Name: "new", Kind: api.SchedEmergency, Weight: 1, Least: len(h.Sched.Table) - 1, Burst: 1 + r.Intn(100), Delay: 1}
	if _, e := sched.Admit(h.Sched, nil, x); e != api.OK {
		return false
	}
	for _, person := range h.People {
		behind, e := station.Accept(h, log, api.StationEntry{By: person.Name, Text: "admit " + sched.FormatBearer(x)})
		if e != api.OK {
			t.Errorf("%v: %v is refused: %d", toldBy(log), x, e)
			return false
		}
		after := must(station.StateOf(h, behind))
		if after.Removed-before.Removed != len(before.Bearers)+1-len(after.Bearers) {
			t.Errorf("%v: %d removed, then %d", toldBy(log), before.Removed, after.Removed)
		}
		if after.Removed > before.Removed {
			return true
		}
	}
	return false
}

// checkBack is P10.11: "use", and then "back", change nothing. It tells whether there was a version to use.
func checkBack(t *testing.T, h api.StationHouse, log []api.StationEntry) bool {
	t.Helper()
	before := must(station.StateOf(h, log))
	chief := h.People[slices.IndexFunc(h.People, func(x api.StationPerson) bool { return x.Role == api.StationChief })].Name
	for version := range before.Versions {
		used, e := station.Accept(h, log, api.StationEntry{By: chief, Text: fmt.Sprint("use ", version)})
		if e != api.OK || len(used) == api.MaxStationLog {
			continue
		}
		back := must(station.Accept(h, used, api.StationEntry{By: chief, Text: "back"}))
		expect(t, fmt.Sprint("StateOf ", toldBy(back)), must(station.StateOf(h, back)), api.OK, before, api.OK)
		return true
	}
	return false
}
