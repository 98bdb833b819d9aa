package station_test

import (
	"fmt"
	"math"
	"slices"
	"strings"
	"testing"

	"downtilt/api"
	"downtilt/station"
)

// wrongNames are no names.
var wrongNames = []string{"", "1", "-a", "a b", "a_", "abcdefghijklm", "\xff", "é", "@", "[", "`", "{", "a/", "a:", "a.", "a\n"}

// houseMistake is a change of the example house, and what CheckHouse finds then.
type houseMistake struct {
	change func(*api.StationHouse)
	number int
	e      api.Errno
}

// wrongHouses are changes of several parts of a house, in the order in which these are checked.
func wrongHouses() [][]houseMistake {
	var names, people, alarms []houseMistake
	for _, name := range wrongNames {
		names = append(names, houseMistake{func(h *api.StationHouse) { h.Name = name }, 0, api.ErrName})
		people = append(people,
			houseMistake{func(h *api.StationHouse) { h.People[0].Name = name }, 0, api.ErrName},
			houseMistake{func(h *api.StationHouse) { h.People[2].Name = name }, 2, api.ErrName})
		alarms = append(alarms,
			houseMistake{func(h *api.StationHouse) { h.Alarms[0].Name = name }, 0, api.ErrName},
			houseMistake{func(h *api.StationHouse) { h.Alarms[2].Name = name }, 2, api.ErrName})
	}
	return [][]houseMistake{names, append(people, wrongPeople()...), wrongCarriers(), wrongSites(), wrongNetworks(), wrongPlans(), append(alarms, wrongAlarms()...)}
}

func wrongPeople() []houseMistake {
	type people = []api.StationPerson
	var l []houseMistake
	for _, x := range []struct {
		people people
		number int
		e      api.Errno
	}{
		{nil, 0, api.ErrShape},
		{make(people, 13), 0, api.ErrLarge},
		{peopleOf("a", 0, "b", 1, "c", 2, "d", 0, "e", 0, "f", 0, "g", 0, "h", 0, "i", 0, "j", 0, "k", 0, "l", 0, "m", 0), 0, api.ErrLarge},
		{peopleOf("a", 0, "a", 2), 1, api.ErrExists},
		{peopleOf("a", 0, "b", 1, "c", 2, "a", 0), 3, api.ErrExists},
		{peopleOf("a", 0, "b", 1, "c", 2, "c", -1), 3, api.ErrExists}, // ahead of ErrKind
		{peopleOf("a", 0, "b", 3), 1, api.ErrKind},
		{peopleOf("a", -1, "b", 3), 0, api.ErrKind},
		{peopleOf("a", math.MaxInt, "a", 3), 0, api.ErrKind}, // one by one
		{peopleOf("a", math.MinInt, "1", 3), 0, api.ErrKind},
		{peopleOf("a", 0, "1", 3), 1, api.ErrName}, // ahead of ErrKind
	} {
		l = append(l, houseMistake{func(h *api.StationHouse) { h.People = x.people }, x.number, x.e})
	}
	return l
}

// peopleOf are people told by their names and roles.
func peopleOf(told ...any) []api.StationPerson {
	var l []api.StationPerson
	for x := range slices.Chunk(told, 2) {
		l = append(l, api.StationPerson{Name: x[0].(string), Role: x[1].(int)})
	}
	return l
}

func wrongCarriers() []houseMistake {
	noName, noParts, wide := carrierOf(carrierLine), carrierOf(carrierLine), carrierOf(clashLine)
	noName.Name, noParts.Parts, wide.Signals[0].Step = "", nil, 13
	both := carrierOf(clashLine) // it misses its reference, too
	both.Signals[3].Step = 1
	both.Signals[3].Shift = 0
	var l []houseMistake
	for _, x := range []wrong[api.GridCarrier]{
		{noName, api.ErrName},
		{noParts, api.ErrShape},
		{wide, api.ErrRange},
		{carrierOf(clashLine), api.ErrClash},
		{both, api.ErrClash},
		{carrierOf(gapLine), api.ErrGap},
		{carrierOf("carrier empty 0 12;part 0 0 1"), api.ErrGap},
	} {
		l = append(l, houseMistake{func(h *api.StationHouse) { h.Carrier = x.x }, 0, x.e})
	}
	return l
}

func wrongSites() []houseMistake {
	return []houseMistake{
		{func(h *api.StationHouse) { h.Sched.Blocks = 0 }, 0, api.ErrRange},
		{func(h *api.StationHouse) { h.Sched.Table = nil }, 0, api.ErrShape},
		{func(h *api.StationHouse) { h.Sched.Table = make([]int, 17) }, 0, api.ErrLarge},
		{func(h *api.StationHouse) { h.Sched.Table = []int{0, 2, 1} }, 0, api.ErrOrder},
	}
}

func wrongNetworks() []houseMistake {
	return []houseMistake{
		{func(h *api.StationHouse) { h.Net.Cells = nil }, 0, api.ErrShape},
		{func(h *api.StationHouse) { h.Net.Cells = []string{"x", "x"} }, 0, api.ErrExists},
		{func(h *api.StationHouse) { h.Net.Neighbours = [][2]int{{0, 1}, {0, 1}} }, 0, api.ErrDouble},
		{func(h *api.StationHouse) { h.Net.Neighbours = [][2]int{{0, 1}, {0, 2}} }, 0, api.ErrMissing},
		{func(h *api.StationHouse) { h.Net.Limit = 0 }, 0, api.ErrRange},
	}
}

func wrongPlans() []houseMistake {
	return []houseMistake{
		{func(h *api.StationHouse) { h.Plan.Raster.Rows = nil }, 0, api.ErrShape},
		{func(h *api.StationHouse) { h.Plan.Cells = make([]api.PlanCell, 7) }, 0, api.ErrLarge},
		{func(h *api.StationHouse) { h.Plan.Cells[1].Name = "p" }, 0, api.ErrExists},
		{func(h *api.StationHouse) { h.Plan.Cells[1].At = [2]int{1, 0} }, 0, api.ErrMissing},
		{func(h *api.StationHouse) { h.Plan.Least = 1001 }, 0, api.ErrRange},
	}
}

func wrongAlarms() []houseMistake {
	type alarms = []api.StationAlarm
	var l []houseMistake
	for _, x := range []struct {
		alarms alarms
		number int
		e      api.Errno
	}{
		{make(alarms, 11), 0, api.ErrLarge},
		{alarms{{Name: "a"}, {Name: "b"}, {Name: "a"}}, 2, api.ErrExists},
		{alarms{{Name: "a"}, {Name: "a", Severity: 4}}, 1, api.ErrExists}, // ahead of ErrRange
		{alarms{{Name: "a", Severity: 4}, {Name: "a"}}, 0, api.ErrRange},
		{alarms{{Name: "a"}, {Name: "b", Severity: -1}}, 1, api.ErrRange},
		{alarms{{Name: "a"}, {Name: "b", Severity: math.MaxInt}}, 1, api.ErrRange},
		{alarms{{Name: "a"}, {Name: "b", Severity: math.MinInt, Causes: []int{1}}}, 1, api.ErrRange}, // ahead of ErrMissing
		{alarms{{Name: "a", Causes: []int{0}}}, 0, api.ErrMissing},
		{alarms{{Name: "a"}, {Name: "b", Causes: []int{1}}, {Name: "c"}}, 1, api.ErrMissing},
		{alarms{{Name: "a"}, {Name: "b", Causes: []int{-1}}}, 1, api.ErrMissing},
		{alarms{{Name: "a"}, {Name: "b"}, {Name: "c", Causes: []int{0, 2}}}, 2, api.ErrMissing},
		{alarms{{Name: "a"}, {Name: "b"}, {Name: "c", Causes: []int{1, -1}}}, 2, api.ErrMissing}, // ahead of ErrOrder
		{alarms{{Name: "a"}, {Name: "b"}, {Name: "c", Causes: []int{1, 0}}}, 2, api.ErrOrder},
		{alarms{{Name: "a"}, {Name: "b", Causes: []int{0, 0, 1}}, {Name: "b"}}, 1, api.ErrOrder}, // cause by cause
		{alarms{{Name: "a"}, {Name: "b", Causes: []int{0, math.MaxInt, 0}}}, 1, api.ErrMissing},
		{alarms{{Name: "a"}, {Name: "b", Causes: []int{math.MinInt}}}, 1, api.ErrMissing},
	} {
		l = append(l, houseMistake{func(h *api.StationHouse) { h.Alarms = x.alarms }, x.number, x.e})
	}
	return l
}

// TestCheckHouse is of each mistake alone, and of each two of different parts of a house.
func TestCheckHouse(t *testing.T) {
	number, e := station.CheckHouse(exampleHouse())
	expect(t, "CheckHouse of the example", number, e, 0, api.OK)
	parts := wrongHouses()
	for i, part := range parts {
		for j, x := range part {
			h := exampleHouse()
			x.change(&h)
			number, e := station.CheckHouse(h)
			expect(t, fmt.Sprint("CheckHouse, mistake ", j, " of the part ", i), number, e, x.number, x.e)
			for k, y := range slices.Concat(parts[i+1:]...) {
				h := exampleHouse()
				y.change(&h)
				x.change(&h)
				number, e := station.CheckHouse(h)
				expect(t, fmt.Sprint("CheckHouse, mistake ", j, " of the part ", i, ", and mistake ", k), number, e, x.number, x.e)
			}
		}
	}
}

// TestTooManyAlarms is looked for ahead of their names.
func TestTooManyAlarms(t *testing.T) {
	h := exampleHouse()
	h.Alarms = nil
	for kind := range 11 {
		h.Alarms = append(h.Alarms, api.StationAlarm{Name: fmt.Sprint("a", kind)})
	}
	number, e := station.CheckHouse(h)
	expect(t, "CheckHouse of 11 kinds", number, e, 0, api.ErrLarge)
	h.Alarms = h.Alarms[:10]
	number, e = station.CheckHouse(h)
	expect(t, "CheckHouse of 10 kinds", number, e, 0, api.OK)
}

// TestRightHouses is of houses at the ends of their ranges.
func TestRightHouses(t *testing.T) {
	for i, change := range []func(*api.StationHouse){
		func(h *api.StationHouse) { h.Name = "Zz-09azAZ9-9" },
		func(h *api.StationHouse) { h.People = h.People[:1] },
		func(h *api.StationHouse) { h.People = peopleOf("Z", 0, "A", 1, "z", 2) },
		func(h *api.StationHouse) {
			h.People = peopleOf("a", 0, "b", 1, "c", 2, "d", 0, "e", 0, "f", 0, "g", 0, "h", 0, "i", 0, "j", 0, "k", 0, "abcdefghijkl", 0)
		},
		func(h *api.StationHouse) { h.Carrier = carrierOf(moreLine) },
		func(h *api.StationHouse) { h.Alarms = nil },
		func(h *api.StationHouse) { h.Alarms[0].Severity, h.Alarms[2].Severity = 0, 3 },
		func(h *api.StationHouse) { h.Alarms[2].Causes = []int{1} },
		func(h *api.StationHouse) {
			h.Alarms[0].Name, h.Plan.Cells[0].Name, h.Net.Cells[0] = "ann", "ann", "ann"
		},
		func(h *api.StationHouse) { h.Plan.Least = 1000 }, // no cell covers anything
		func(h *api.StationHouse) { h.Net.Neighbours = nil },
	} {
		h := exampleHouse()
		change(&h)
		number, e := station.CheckHouse(h)
		expect(t, fmt.Sprint("CheckHouse of the right house ", i), number, e, 0, api.OK)
	}
}

// houseErrors are of a house: the errors of CheckHouse without its number.
func houseErrors() []mistake {
	var l []mistake
	for i, part := range wrongHouses() {
		for _, x := range part {
			l = append(l, mistake{fmt.Sprint("part ", i), func(a *arguments) { x.change(&a.House) }, x.e})
		}
	}
	return l
}

// fewHouseErrors are one of each part of a house.
func fewHouseErrors() []mistake {
	var l []mistake
	for i, part := range wrongHouses() {
		x := part[len(part)-1]
		l = append(l, mistake{fmt.Sprint("part ", i), func(a *arguments) { x.change(&a.House) }, x.e})
	}
	return l
}

// TestErrorsOfHouses is of all functions that have a house.
func TestErrorsOfHouses(t *testing.T) {
	for name := range strings.SplitSeq("CheckHouse CheckLog StateOf Accept BroughtAbout RootsOf LeastCauses WorstOf Day Report Ask", " ") {
		f := functionOf(name)
		for _, x := range houseErrors() {
			a := rightArguments()
			x.change(&a)
			results, e := f.call(a)
			expect(t, name, areNothing(results), e, true, x.e)
		}
	}
	for _, x := range houseErrors() {
		a := rightArguments()
		x.change(&a)
		d, e := station.New(a.House)
		expect(t, "New", d == nil, e, true, x.e)
	}
}
