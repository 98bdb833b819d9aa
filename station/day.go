package station

import (
	"slices"
	"strconv"

	"downtilt/api"
	"downtilt/move"
	"downtilt/sched"
)

// From how many numbers a day draws what: the sort of a step, the numbers of a bearer, and how much later an event of the walk is.
const (
	stepSorts  = 8
	priorities = 5
	weights    = 5
	powers     = 10
	bursts     = 100
	rates      = 50
	delays     = 5
	laterTimes = 10
)

// generator is the last number that was drawn.
type generator struct{ x int }

// Next returns what comes behind a number of the generator.
func Next(x int) (int, api.Errno) {
	if e := seedError(x); e != api.OK {
		return 0, e
	}
	return next(x), api.OK
}

// Day returns the entries of a day.
func Day(h api.StationHouse, seed, steps int) ([]api.StationEntry, api.Errno) {
	chief := slices.IndexFunc(h.People, func(x api.StationPerson) bool { return x.Role == api.StationChief })
	b, err := begin(h)
	e := firstError(
		codeOf(err),
		seedError(seed),
		rangeError(steps, 0, api.MaxStationSteps),
		unless(chief != none, api.ErrNone))
	if e != api.OK {
		return nil, e
	}
	g := generator{seed}
	var log []api.StationEntry
	for step := range steps {
		x := api.StationEntry{By: h.People[chief].Name, Text: g.step(b, step)}
		if err := b.enter(x); err == nil { // the empty text is refused, too
			log = append(log, x)
		}
	}
	return log, api.OK
}

func seedError(seed int) api.Errno {
	return rangeError(seed, 1, api.GeneratorPrime-1)
}

func next(x int) int {
	return api.StationFactor * x % api.GeneratorPrime
}

// draw draws from n.
func (g *generator) draw(n int) int {
	g.x = next(g.x)
	return g.x % n
}

// step draws the text of an entry. It is empty if there is nothing to draw from.
func (g *generator) step(b *book, step int) string {
	switch g.draw(stepSorts) {
	case 0, 1:
		x := g.bearer("c"+strconv.Itoa(step), len(b.house.Sched.Table))
		return "admit " + sched.FormatBearer(x)
	case 2:
		return g.oneOf("end", namesOf(b.Bearers, bearerName))
	case 3:
		return g.oneOf("raise", namesOf(b.house.Alarms, alarmName))
	case 4:
		return g.oneOf("clear", b.alarmNames(b.Raised))
	case 5:
		return g.oneOf("rest", namesOf(b.house.Plan.Cells, cellName))
	case 6:
		return g.oneOf("wake", b.restingNames())
	}
	at := b.Walk.At + g.draw(laterTimes)
	events, _ := move.Possible(b.house.Net, b.Walk, at) // beside an error there are none
	return g.oneOf("walk", namesOf(events, move.FormatEvent))
}

// oneOf draws what stands behind a word.
func (g *generator) oneOf(word string, all []string) string {
	if len(all) == 0 {
		return ""
	}
	return word + " " + all[g.draw(len(all))]
}

// bearer draws the numbers of a bearer one by one: their order matters.
func (g *generator) bearer(name string, reports int) api.SchedBearer {
	x := api.SchedBearer{Name: name}
	x.Kind = g.draw(api.SchedKinds)
	x.Priority = g.draw(priorities)
	x.Weight = 1 + g.draw(weights)
	x.Power = g.draw(powers)
	if x.Kind == api.SchedBest {
		return x
	}
	x.Least = g.draw(reports)
	x.Burst = 1 + g.draw(bursts)
	x.Rate = g.draw(rates)
	x.Delay = 1 + g.draw(delays)
	return x
}
