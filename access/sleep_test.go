package access_test

import (
	"fmt"
	"math/rand"
	"testing"

	"downtilt/access"
	"downtilt/api"
)

// exampleSleep is that of the chapter's examples.
func exampleSleep() api.AccessSleep {
	return api.AccessSleep{Cycle: 10, Start: 3, On: 2, Inactive: 5}
}

// TestSleepExample is the example 8 of the chapter.
func TestSleepExample(t *testing.T) {
	s, ticks := exampleSleep(), api.Range{Lo: 0, Hi: 14}
	for tick := range 40 {
		isOn, e := access.AwakeAt(s, tick, api.AccessNone)
		expect(t, fmt.Sprint("AwakeAt ", tick), isOn, e, tick%10 == 3 || tick%10 == 4, api.OK)
	}
	awake, e := access.AwakeAt(s, 8, 4)
	expect(t, "AwakeAt 8", awake, e, true, api.OK)
	awake, e = access.AwakeAt(s, 9, 4)
	expect(t, "AwakeAt 9", awake, e, false, api.OK)
	count, e := access.AwakeIn(s, ticks)
	expect(t, "AwakeIn", count, e, 4, api.OK)
	energy, e := access.EnergyOf(s, ticks, api.AccessPowers{Awake: 10, Asleep: 1, Wake: 3})
	expect(t, "EnergyOf", energy, e, 57, api.OK)
}

// TestRightSleep is of sleeps at the ends of what they may be.
func TestRightSleep(t *testing.T) {
	for _, s := range []api.AccessSleep{
		{Cycle: 1, On: 1},
		{Cycle: 20480, Start: 20479, On: 20480, Inactive: 20480},
		{Cycle: 2, Start: 1, On: 2, Inactive: 20480},
	} {
		e := access.CheckSleep(s)
		expect(t, fmt.Sprint("CheckSleep ", s), e, e, api.OK, api.OK)
	}
}

// TestLastActivity is of activities around a tick at which the phone is off.
func TestLastActivity(t *testing.T) {
	const end = api.MaxTick
	s := exampleSleep()
	none := s
	none.Inactive = 0
	once := s
	once.Inactive = 1
	long := s
	long.Inactive = 20480
	for _, x := range []struct {
		s          api.AccessSleep
		tick, last int
		want       bool
	}{
		{s, 30, 30, true}, {s, 30, 26, true}, {s, 30, 25, false}, {s, 30, 31, false}, {s, 30, 0, false}, {s, 30, -1, false}, {s, 30, end, false},
		{none, 30, 30, false}, {none, 30, 29, false}, {none, 30, 31, false}, {none, 33, 33, true}, {none, 33, 40, true},
		{once, 30, 30, true}, {once, 30, 29, false}, {once, 30, 31, false},
		{long, 20479, 0, true}, {long, 20480, 0, false}, {long, 20480, 1, true}, {long, 20478, -1, false}, {long, 0, -1, false}, {long, 1, -1, false},
		{s, end, end, true}, {s, end, end - 4, true}, {s, end, end - 5, false}, {s, end - 1, end, false}, {s, 0, 0, true}, {s, 0, -1, false}, {s, 2, -1, false}, {s, 4, -1, true}, {s, 5, -1, false},
	} {
		awake, e := access.AwakeAt(x.s, x.tick, x.last)
		expect(t, fmt.Sprint("AwakeAt ", x.s, x.tick, x.last), awake, e, x.want, api.OK)
	}
}

func TestNextAwake(t *testing.T) {
	const end = api.MaxTick
	for _, x := range []struct {
		s          api.AccessSleep
		tick, want int
	}{
		{exampleSleep(), 0, 3}, {exampleSleep(), 3, 3}, {exampleSleep(), 4, 4}, {exampleSleep(), 5, 13}, {exampleSleep(), 12, 13},
		{exampleSleep(), end, end + 3},
		{api.AccessSleep{Cycle: 20480, Start: 1, On: 1}, 2, 20481},
		{api.AccessSleep{Cycle: 20480, Start: 20479, On: 2}, 0, 0}, // the cycle ahead of 0
		{api.AccessSleep{Cycle: 20480, Start: 20479, On: 2}, 1, 20479},
		{api.AccessSleep{Cycle: 1, On: 1}, end, end},
		{api.AccessSleep{Cycle: 20480, Start: 20479, On: 20480}, end, end},
	} {
		next, e := access.NextAwake(x.s, x.tick)
		expect(t, fmt.Sprint("NextAwake ", x.s, x.tick), next, e, x.want, api.OK)
	}
}

// isOn is the definition, with whole cycles added so that no number is below 0.
func isOn(s api.AccessSleep, tick int) bool {
	return (tick+s.Cycle-s.Start)%s.Cycle < s.On
}

// slowEnergy looks at each tick; it returns at how many the phone is on, too.
func slowEnergy(s api.AccessSleep, ticks api.Range, x api.AccessPowers) (int, int) {
	on, energy := 0, 0
	for tick := ticks.Lo; tick <= ticks.Hi; tick++ {
		if !isOn(s, tick) {
			energy += x.Asleep
			continue
		}
		on++
		energy += x.Awake
		if tick == ticks.Lo || !isOn(s, tick-1) {
			energy += x.Wake
		}
	}
	return on, energy
}

func randomPowers(r *rand.Rand) api.AccessPowers {
	return api.AccessPowers{Awake: upTo(r, 1000), Asleep: upTo(r, 1000), Wake: upTo(r, 1000)}
}

// TestSleep compares with what each tick takes.
func TestSleep(t *testing.T) {
	r := rand.New(rand.NewSource(80))
	for range 3000 {
		s, x := randomSleep(r), randomPowers(r)
		lo := []int{r.Intn(3), r.Intn(2*s.Cycle + 1), api.MaxTick - r.Intn(s.Cycle+10)}[r.Intn(3)]
		ticks := api.Range{Lo: lo, Hi: min(lo+[]int{0, r.Intn(10), r.Intn(3*s.Cycle + 1)}[r.Intn(3)], api.MaxTick)}
		count, energy := slowEnergy(s, ticks, x)
		n, e := access.AwakeIn(s, ticks)
		expect(t, fmt.Sprint("AwakeIn ", s, ticks), n, e, count, api.OK)
		n, e = access.EnergyOf(s, ticks, x)
		expect(t, fmt.Sprint("EnergyOf ", s, ticks, x), n, e, energy, api.OK)
		next := lo
		for !isOn(s, next) {
			next++
		}
		n, e = access.NextAwake(s, lo)
		expect(t, fmt.Sprint("NextAwake ", s, lo), n, e, next, api.OK)
		last := max(0, lo-r.Intn(s.Inactive+2))
		awake, e := access.AwakeAt(s, lo, last)
		expect(t, fmt.Sprint("AwakeAt ", s, lo, last), awake, e, isOn(s, lo) || lo-last <= s.Inactive-1, api.OK)
	}
}

// TestWhole is of all ticks there are.
func TestWhole(t *testing.T) {
	all := api.Range{Lo: 0, Hi: api.MaxTick}
	most := api.AccessPowers{Awake: 1000, Asleep: 1000, Wake: 1000}
	for _, x := range []struct {
		s          api.AccessSleep
		on, energy int
	}{
		{api.AccessSleep{Cycle: 1, On: 1}, 1000000001, 1000000002000},
		{api.AccessSleep{Cycle: 20480, Start: 7, On: 20480}, 1000000001, 1000000002000},
		{api.AccessSleep{Cycle: 2, On: 1}, 500000001, 1500000002000},
		{api.AccessSleep{Cycle: 2, Start: 1, On: 1}, 500000000, 1500000001000},
		{api.AccessSleep{Cycle: 10, Start: 3, On: 2}, 200000000, 1100000001000},
		{api.AccessSleep{Cycle: 10, Start: 9, On: 2}, 200000001, 1100000002000},
	} {
		on, e := access.AwakeIn(x.s, all)
		expect(t, fmt.Sprint("AwakeIn ", x.s), on, e, x.on, api.OK)
		energy, e := access.EnergyOf(x.s, all, most)
		expect(t, fmt.Sprint("EnergyOf ", x.s), energy, e, x.energy, api.OK)
	}
}

// TestSummedUp is P7.12.
func TestSummedUp(t *testing.T) {
	r := rand.New(rand.NewSource(81))
	more := 0
	for range 3000 {
		s, x := randomSleep(r), randomPowers(r)
		x.Wake = 1 + r.Intn(1000)
		lo := upTo(r, api.MaxTick-1)
		hi := lo + 1 + upTo(r, min(api.MaxTick-lo-1, 3*s.Cycle))
		middle := lo + r.Intn(hi-lo)
		left, right, both := api.Range{Lo: lo, Hi: middle}, api.Range{Lo: middle + 1, Hi: hi}, api.Range{Lo: lo, Hi: hi}
		a, b, c := must(access.AwakeIn(s, left)), must(access.AwakeIn(s, right)), must(access.AwakeIn(s, both))
		if a+b != c {
			t.Errorf("%v in %v: %d, %d, together %d", s, both, a, b, c)
		}
		a, b, c = must(access.EnergyOf(s, left, x)), must(access.EnergyOf(s, right, x)), must(access.EnergyOf(s, both, x))
		if a+b == c+x.Wake {
			more++
		} else if a+b != c {
			t.Errorf("%v takes in %v: %d, %d, together %d", s, both, a, b, c)
		}
	}
	if more < 300 {
		t.Errorf("%d times more", more)
	}
}
